package rice

import (
	"math"
	"math/big"
	"strings"
	"testing"

	"serinette/api"
	"serinette/bits"
)

// told is the first many bits of bytes as a text of 0 and 1.
func told(b []byte, many int) string {
	var s strings.Builder
	for i := range many {
		s.WriteByte('0' + b[i/8]>>(7-i%8)&1)
	}
	return s.String()
}

// laid is a writer with the bits of such a text.
func laid(s string) *bits.Writer {
	w := bits.New()
	for i := range len(s) {
		w.Put(uint64(s[i]-'0'), 1)
	}
	return w
}

// opened is a reader of such a text; its length is a multiple of 8, so that nothing is filled.
func opened(t *testing.T, s string) *bits.Reader {
	t.Helper()
	if len(s)%8 != 0 {
		t.Fatalf("%d bits are no bytes", len(s))
	}
	return bits.Open(laid(s).Bytes())
}

// scramble makes numbers that look unruly, always the same ones.
func scramble(n uint64) uint64 {
	n = (n + 1) * 0x9e3779b97f4a7c15
	n = (n ^ n>>31) * 0xbf58476d1ce4e5b9
	return n ^ n>>29
}

// folded is Fold by the promise's own words, in numbers that have no end.
func folded(n int) *big.Int {
	twice := new(big.Int).Mul(big.NewInt(int64(n)), big.NewInt(2))
	if twice.Sign() >= 0 {
		return twice
	}
	return twice.Neg(twice).Sub(twice, big.NewInt(1))
}

// parts are the higher part and the lower bits of a near number, by division.
func parts(n, k int) (int, uint64) {
	u, d := folded(n), new(big.Int).Exp(big.NewInt(2), big.NewInt(int64(k)), nil)
	q, m := new(big.Int).DivMod(u, d, new(big.Int))
	return int(q.Int64()), m.Uint64()
}

// wanted is what Put has to lay, as a text.
func wanted(n, k int) string {
	zeros, lower := parts(n, k)
	s := strings.Repeat("0", zeros) + "1"
	for i := k - 1; i >= 0; i-- {
		s += string(rune('0' + lower>>i&1))
	}
	return s
}

// some are numbers of all sizes, with those that are at the edges of 64 bits, of what is near, and of a power of 2.
func some() []int {
	all := []int{0, math.MinInt, math.MaxInt, math.MinInt + 1, math.MaxInt - 1}
	for i := range 63 {
		for _, d := range []int{-2, -1, 0, 1, 2} {
			all = append(all, 1<<i+d, -(1<<i)+d)
		}
		for j := range 8 {
			n := int(scramble(uint64(100*i+j)) >> i)
			all = append(all, n, -n)
		}
	}
	return all
}

// ks are all k, with what they are held to.
func ks() [][2]int {
	all := [][2]int{{-1, 0}, {-64, 0}, {math.MinInt, 0}, {31, 30}, {32, 30}, {64, 30}, {math.MaxInt, 30}}
	for k := range 31 {
		all = append(all, [2]int{k, k})
	}
	return all
}

// P2.1: the constants, and the numbers near 0 as they are listed.
func TestFoldExamples(t *testing.T) {
	if Most != 30 || Longest != 65535 {
		t.Fatal(Most, Longest)
	}
	for want, n := range []int{0, -1, 1, -2, 2, -3, 3, -4, 4} {
		if Fold(n) != uint64(want) || Unfold(uint64(want)) != n {
			t.Errorf("Fold(%d) is %d, Unfold(%d) is %d", n, Fold(n), want, Unfold(uint64(want)))
		}
	}
}

// P2.1: for any n, without rounding.
func TestFoldAny(t *testing.T) {
	for _, n := range some() {
		want := folded(n)
		if !want.IsUint64() || Fold(n) != want.Uint64() {
			t.Errorf("Fold(%d) is %d, want %s", n, Fold(n), want)
		}
		if got := Unfold(want.Uint64()); got != n {
			t.Errorf("Unfold(%s) is %d, want %d", want, got, n)
		}
	}
	if Fold(math.MaxInt) != math.MaxUint64-1 || Fold(math.MinInt) != math.MaxUint64 {
		t.Error(Fold(math.MaxInt), Fold(math.MinInt))
	}
}

// P2.1: for any u.
func TestUnfoldAny(t *testing.T) {
	us := []uint64{0, 1, 2, 3, 1<<63 - 1, 1 << 63, 1<<63 + 1, math.MaxUint64 - 1, math.MaxUint64}
	for i := range uint64(2000) {
		us = append(us, scramble(i), scramble(i)>>(i%64))
	}
	for _, u := range us {
		if got := folded(Unfold(u)); !got.IsUint64() || got.Uint64() != u {
			t.Errorf("Unfold(%d) is %d, whose Fold is %s", u, Unfold(u), got)
		}
	}
}

// P2.1: the ends of what is near.
func TestNear(t *testing.T) {
	for _, x := range []struct {
		n    int
		want bool
	}{
		{0, true}, {1, true}, {-1, true},
		{1<<33 - 2, true}, {1<<33 - 1, true}, {1 << 33, false}, {1<<33 + 1, false},
		{-1<<33 + 1, true}, {-1 << 33, true}, {-1<<33 - 1, false}, {-1<<33 - 2, false},
		{1 << 32, true}, {1 << 34, false}, {-1 << 34, false}, {math.MaxInt, false}, {math.MinInt, false},
	} {
		if Near(x.n) != x.want {
			t.Errorf("Near(%d) is %v", x.n, Near(x.n))
		}
	}
	for _, n := range some() {
		if Near(n) != (n >= -8589934592 && n <= 8589934591) {
			t.Errorf("Near(%d) is %v", n, Near(n))
		}
	}
}

// P2.2: Size by every k, with those that are held.
func TestSize(t *testing.T) {
	for _, n := range some() {
		for _, k := range ks() {
			want := -1
			if n >= -8589934592 && n <= 8589934591 {
				zeros, _ := parts(n, k[1])
				want = zeros + 1 + k[1]
			}
			if got := Size(n, k[0]); got != want {
				t.Fatalf("Size(%d, %d) is %d, want %d", n, k[0], got, want)
			}
		}
	}
	if got := Size(-1<<33, 0); got != 1<<34 {
		t.Errorf("the longest size is %d", got)
	}
}

// P2.2: the example.
func TestPutExample(t *testing.T) {
	w := bits.New()
	if e := Put(w, -3, 1); e != api.OK || w.Len() != 4 || told(w.Bytes(), 4) != "0011" {
		t.Fatalf("%d, %d bits, %x", e, w.Len(), w.Bytes())
	}
}

// wantPut asks for what Put lays behind bits that are there, or that it lays nothing.
func wantPut(t *testing.T, ahead string, n, k, held int) {
	t.Helper()
	want, fail := ahead, api.OK
	zeros, _ := parts(n, held)
	switch {
	case n < -8589934592 || n > 8589934591:
		fail = api.ErrRange
	case zeros > 65535:
		fail = api.ErrLong
	default:
		want += wanted(n, held)
	}
	w := laid(ahead)
	if e := Put(w, n, k); e != fail {
		t.Fatalf("Put(%d, %d) is %d, want %d", n, k, e, fail)
	}
	if w.Len() != len(want) || told(w.Bytes(), w.Len()) != want {
		t.Fatalf("Put(%d, %d) laid %d bits, want %d, or others", n, k, w.Len()-len(ahead), len(want)-len(ahead))
	}
	if fail == api.OK && Size(n, k) != len(want)-len(ahead) {
		t.Fatalf("Size(%d, %d) is %d, but %d bits are laid", n, k, Size(n, k), len(want)-len(ahead))
	}
}

// P2.2: Put by every k of numbers of all sizes: what is laid, what isn't near, what is too long.
func TestPut(t *testing.T) {
	for i, n := range some() {
		for _, k := range ks() {
			if zeros, _ := parts(n, k[1]); zeros > 2000 && zeros <= 65535 {
				continue // long ones have a test of their own
			}
			wantPut(t, "1011010"[:i%8], n, k[0], k[1])
		}
	}
}

// P2.2: each count of bits 0 where a writer's words end.
func TestPutZeros(t *testing.T) {
	for zeros := range 300 {
		wantPut(t, "101", Unfold(uint64(zeros)), 0, 0)
		wantPut(t, "", Unfold(uint64(zeros)<<3|5), 3, 3)
	}
}

// P2.2: a higher part of Longest is put, one above it isn't, by every k; then nothing is written.
func TestPutLongest(t *testing.T) {
	for k := 0; k <= 18; k++ {
		for _, lower := range []uint64{0, 1<<k - 1} {
			wantPut(t, "11", Unfold(65534<<k|lower), k, k)
			wantPut(t, "11", Unfold(65535<<k|lower), k, k)
			wantPut(t, "11", Unfold(65536<<k|lower), k, k)
		}
	}
	wantPut(t, "1", 32767, -5, 0)
	wantPut(t, "1", -32768, 0, 0)
	wantPut(t, "1", 32768, 0, 0)
	wantPut(t, "1", -32769, -1, 0)
}

// P2.2: what isn't near is told ahead of what is too long, by a k that is held too.
func TestPutWrong(t *testing.T) {
	for _, k := range []int{math.MinInt, -1, 0, 1, 17, 30, 31, math.MaxInt} {
		for _, n := range []int{1 << 33, -1<<33 - 1, math.MaxInt, math.MinInt} {
			w := laid("10101")
			if e := Put(w, n, k); e != api.ErrRange || w.Len() != 5 || told(w.Bytes(), 5) != "10101" {
				t.Errorf("Put(%d, %d) is %d, and there are %d bits", n, k, e, w.Len())
			}
		}
	}
	for _, n := range []int{1<<33 - 1, -1 << 33} {
		w := laid("10101")
		if e := Put(w, n, 17); e != api.ErrLong || w.Len() != 5 {
			t.Errorf("Put(%d, 17) is %d, and there are %d bits", n, e, w.Len())
		}
		if e := Put(w, n, 18); e != api.OK || w.Len() != 5+65535+1+18 {
			t.Errorf("Put(%d, 18) is %d, and there are %d bits", n, e, w.Len())
		}
	}
}

func wantTake(t *testing.T, r *bits.Reader, k, want, at int, fail api.Errno) {
	t.Helper()
	if got := Take(r, k); got != want {
		t.Fatalf("Take(%d) is %d, want %d", k, got, want)
	}
	if r.At() != at || r.Fail() != fail {
		t.Fatalf("at %d, failed with %d, want %d and %d", r.At(), r.Fail(), at, fail)
	}
}

// P2.3: numbers by hand.
func TestTakeExamples(t *testing.T) {
	r := opened(t, "0011"+"1"+"01"+"0001101"+"11")
	wantTake(t, r, 1, -3, 4, api.OK)
	wantTake(t, r, 0, 0, 5, api.OK)
	wantTake(t, r, 0, -1, 7, api.OK)
	wantTake(t, r, 3, -15, 14, api.OK)
	wantTake(t, r, 0, 0, 15, api.OK)
	wantTake(t, r, -7, 0, 16, api.OK)
	wantTake(t, r, 0, 0, 16, api.ErrShort)
}

// P2.3: k is held.
func TestTakeHoldsK(t *testing.T) {
	s := "01" + strings.Repeat("10", 15) + strings.Repeat("1", 32)
	for _, k := range []int{30, 31, 64, math.MaxInt} {
		wantTake(t, opened(t, s), k, Unfold(1<<30|0x2aaaaaaa), 32, api.OK)
	}
	for _, k := range []int{0, -1, -64, math.MinInt} {
		wantTake(t, opened(t, s), k, -1, 2, api.OK)
	}
}

// P2.3: more bits 0 than are ever put are taken too, and numbers that aren't near.
func TestTakeLong(t *testing.T) {
	s := strings.Repeat("0", 65543) + "1"
	wantTake(t, opened(t, s), 0, -32772, 65544, api.OK)
	s = strings.Repeat("0", 70001) + "1" + strings.Repeat("1", 30)
	wantTake(t, opened(t, s), 30, Unfold(70001<<30|(1<<30-1)), 70032, api.OK)
	s = strings.Repeat("0", 1<<20) + "1" + strings.Repeat("01", 15) + "1"
	wantTake(t, opened(t, s), 30, Unfold(1<<50|0x15555555), 1<<20+31, api.OK)
}

// P2.3: a reader that ends between the zeros: all of them are taken.
func TestTakeEndsBetweenZeros(t *testing.T) {
	for _, many := range []int{0, 1, 2, 9} {
		for _, k := range []int{0, 3, 30, -1, 99} {
			r := opened(t, strings.Repeat("0", 8*many))
			wantTake(t, r, k, 0, 8*many, api.ErrShort)
		}
	}
	r := opened(t, "11010000")
	wantTake(t, r, 1, -1, 2, api.OK)
	wantTake(t, r, 1, 1, 5, api.OK)
	wantTake(t, r, 1, 0, 8, api.ErrShort)
}

// P2.3: a reader that ends ahead of the lower bits, or within them: they are one Take, so that none of them is.
func TestTakeEndsAheadOfLower(t *testing.T) {
	for lower := range 8 {
		s := strings.Repeat("0", 7-lower) + "1" + strings.Repeat("1", lower)
		for k := range 31 {
			r := opened(t, s)
			if k <= lower {
				zeros := uint64(7 - lower)
				wantTake(t, r, k, Unfold(zeros<<k|(1<<k-1)), 8-lower+k, api.OK)
				continue
			}
			wantTake(t, r, k, 0, 8-lower, api.ErrShort)
			wantTake(t, r, 0, 0, 8-lower, api.ErrShort)
		}
	}
}

// P2.3: of a reader that failed before nothing is taken, however it failed and whatever is left.
func TestTakeOfFailed(t *testing.T) {
	for _, k := range []int{0, 1, 7, 30, -1, 99} {
		r := opened(t, "11111111")
		r.Take(9)
		wantTake(t, r, k, 0, 0, api.ErrShort)
		r = opened(t, "01111111")
		r.Take(1)
		r.Fill()
		wantTake(t, r, k, 0, 1, api.ErrForm)
	}
}

// P2.4: what was put is taken, by every k, one behind the other.
func TestPutIsTaken(t *testing.T) {
	type item struct{ n, k int }
	var all []item
	for i := range uint64(20000) {
		k := int(scramble(2*i)%33) - 1
		n := int(scramble(2*i+1)%(100<<max(0, min(k, 27)))) - 50<<max(0, min(k, 27))
		all = append(all, item{n, k})
	}
	for k := range 31 {
		n := min(Unfold(65534<<k), far-1)
		all = append(all, item{n, k}, item{-n - 1, k}, item{0, k}, item{-1, k})
	}
	w := bits.New()
	size := 0
	for _, x := range all {
		if e := Put(w, x.n, x.k); e != api.OK {
			t.Fatalf("Put(%d, %d) is %d", x.n, x.k, e)
		}
		size += Size(x.n, x.k)
	}
	if w.Len() != size {
		t.Fatalf("%d bits, but the sizes are %d", w.Len(), size)
	}
	r := bits.Open(w.Bytes())
	for _, x := range all {
		if got := Take(r, x.k); got != x.n {
			t.Fatalf("%d was put by %d, %d is taken", x.n, x.k, got)
		}
	}
	if r.At() != w.Len() || r.Fail() != api.OK {
		t.Fatalf("at %d of %d, failed with %d", r.At(), w.Len(), r.Fail())
	}
}

// P2.4: each number has a folded one of its own; one that is nearer to 0 has no longer size.
func TestNearerIsNoLonger(t *testing.T) {
	seen := map[uint64]int{}
	for n := -3000; n <= 3000; n++ {
		if m, ok := seen[Fold(n)]; ok {
			t.Fatalf("%d and %d are folded into one", m, n)
		}
		seen[Fold(n)] = n
		for k := range 31 {
			for _, m := range []int{n, -n} {
				if n > 0 && (Size(n-1, k) > Size(m, k) || Size(1-n, k) > Size(m, k)) {
					t.Fatalf("by %d one nearer than %d has a longer size", k, m)
				}
			}
		}
	}
	for i := range uint64(3000) {
		n := int(scramble(i)%(1<<33)) + 1
		m := int(scramble(i+1<<40) % uint64(n))
		for k := range 31 {
			if n < 1<<33 && (Size(m, k) > Size(n, k) || Size(m, k) > Size(-n, k) || Size(-m, k) > Size(n, k) || Size(-m, k) > Size(-n, k)) {
				t.Fatalf("by %d %d has a longer size than %d", k, m, n)
			}
		}
	}
}

// P2.3, P2.4: of any bytes what is taken is put again as it was, where it can be put.
func FuzzTakenIsPut(f *testing.F) {
	f.Add([]byte{0x30}, 1)
	f.Add([]byte{0, 0, 0x5a, 0xff}, 7)
	f.Add([]byte{0x80, 0, 0, 0, 0xff}, 99)
	f.Fuzz(func(t *testing.T, b []byte, k int) {
		r, w := bits.Open(b), bits.New()
		for r.Left() > 0 {
			at := r.At()
			n := Take(r, k)
			if r.Fail() != api.OK {
				if n != 0 {
					t.Fatalf("failed, but %d", n)
				}
				return
			}
			if r.At()-at-1-held(k) > Longest || !Near(n) {
				return
			}
			if e := Put(w, n, k); e != api.OK {
				t.Fatalf("%d was taken by %d, Put is %d", n, k, e)
			}
			if told(w.Bytes(), w.Len()) != told(b, r.At()) {
				t.Fatalf("bits up to %d are put in another way", r.At())
			}
		}
	})
}
