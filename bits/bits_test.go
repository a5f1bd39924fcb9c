package bits

import (
	"bytes"
	"math"
	"strings"
	"testing"

	"serinette/api"
)

// told is the bits of bytes as a text of 0 and 1.
func told(b []byte) string {
	var s strings.Builder
	for _, x := range b {
		for i := 7; i >= 0; i-- {
			s.WriteByte('0' + x>>i&1)
		}
	}
	return s.String()
}

// lowestBits is the width lowest bits of n as such a text; the width is from 0 to 64.
func lowestBits(n uint64, width int) string {
	var s strings.Builder
	for i := width - 1; i >= 0; i-- {
		s.WriteByte('0' + byte(n>>i&1))
	}
	return s.String()
}

// value is the number that such a text tells.
func value(s string) uint64 {
	n := uint64(0)
	for i := range len(s) {
		n = n<<1 | uint64(s[i]-'0')
	}
	return n
}

// filled is such a text with as few 0 behind it as fill its last byte.
func filled(s string) string {
	for len(s)%8 != 0 {
		s += "0"
	}
	return s
}

// scramble makes numbers that look unruly, always the same ones.
func scramble(n uint64) uint64 {
	n = (n + 1) * 0x9e3779b97f4a7c15
	n = (n ^ n>>31) * 0xbf58476d1ce4e5b9
	return n ^ n>>29
}

func wantWriter(t *testing.T, w *Writer, want string) {
	t.Helper()
	if w.Len() != len(want) {
		t.Fatalf("Len is %d, want %d", w.Len(), len(want))
	}
	if got := told(w.Bytes()); got != filled(want) {
		t.Fatalf("bits are %s, want %s", got, filled(want))
	}
}

func wantReader(t *testing.T, r *Reader, at, left int, fail, end api.Errno) {
	t.Helper()
	if r.At() != at || r.Left() != left {
		t.Fatalf("At and Left are %d and %d, want %d and %d", r.At(), r.Left(), at, left)
	}
	if r.Fail() != fail || r.End() != end {
		t.Fatalf("Fail and End are %d and %d, want %d and %d", r.Fail(), r.End(), fail, end)
	}
}

func wantTake(t *testing.T, r *Reader, width int, want uint64) {
	t.Helper()
	if got := r.Take(width); got != want {
		t.Fatalf("Take(%d) is %#x, want %#x", width, got, want)
	}
}

// P1.1: the example, and a writer without bits.
func TestPutExample(t *testing.T) {
	w := New()
	wantWriter(t, w, "")
	if len(w.Bytes()) != 0 {
		t.Fatal("a new writer has bytes")
	}
	w.Put(5, 3)
	wantWriter(t, w, "101")
	w.Put(1, 2)
	wantWriter(t, w, "10101")
	if !bytes.Equal(w.Bytes(), []byte{0xa8}) {
		t.Fatalf("bytes are %x, want a8", w.Bytes())
	}
}

// P1.1: every width from every place within a byte, with what stands above the width left out.
func TestPutEveryWidthFromEveryPlace(t *testing.T) {
	for ahead := range 9 {
		for width := range 65 {
			for _, n := range []uint64{0, 1, math.MaxUint64, 1 << 63, scramble(uint64(100*ahead + width))} {
				w := New()
				w.Put(math.MaxUint64, ahead)
				w.Put(n, width)
				w.Put(2, 2)
				wantWriter(t, w, strings.Repeat("1", ahead)+lowestBits(n, width)+"10")
			}
		}
	}
}

// P1.1: widths are held from 0 to 64.
func TestPutHoldsWidths(t *testing.T) {
	w := New()
	w.Put(1, 1)
	for _, width := range []int{0, -1, -8, -64, math.MinInt} {
		w.Put(math.MaxUint64, width)
		wantWriter(t, w, "1")
	}
	n := uint64(0x8123456789abcdef)
	want := "1"
	for _, width := range []int{64, 65, 72, 128, 1 << 32, math.MaxInt} {
		w.Put(n, width)
		want += lowestBits(n, 64)
		wantWriter(t, w, want)
	}
}

// P1.1: Fill lays from no to seven bits 0, and none a second time.
func TestFillOfWriter(t *testing.T) {
	for many := range 18 {
		w := New()
		for range many {
			w.Put(1, 1)
		}
		want := filled(strings.Repeat("1", many))
		w.Fill()
		wantWriter(t, w, want)
		w.Fill()
		wantWriter(t, w, want)
		w.Put(1, 1)
		wantWriter(t, w, want+"1")
	}
}

// P1.1: Bytes fills what it answers, not the writer.
func TestBytesDoesNotFill(t *testing.T) {
	w := New()
	want := ""
	for i := range 40 {
		w.Put(uint64(i), 3)
		want += lowestBits(uint64(i), 3)
		wantWriter(t, w, want)
		wantWriter(t, w, want)
	}
}

// P1.1, R5: what was answered is no more the writer's, either way.
func TestBytesAreOwn(t *testing.T) {
	w := New()
	w.Put(0xabc, 12)
	b := w.Bytes()
	w.Put(0xf, 4)
	if !bytes.Equal(b, []byte{0xab, 0xc0}) {
		t.Fatalf("a later Put changed an answer: %x", b)
	}
	b[0], b[1] = 0, 0xff
	_ = append(w.Bytes(), 0xff)
	w.Put(0, 8)
	wantWriter(t, w, told([]byte{0xab, 0xcf, 0x00}))
}

// R6: writers know nothing of each other.
func TestWritersAreApart(t *testing.T) {
	v, w := New(), New()
	v.Put(7, 3)
	w.Put(0, 1)
	v.Put(0, 1)
	wantWriter(t, v, "1110")
	wantWriter(t, w, "0")
}

// P1.2: every width from every place within a byte.
func TestTakeEveryWidthFromEveryPlace(t *testing.T) {
	var b []byte
	for i := range 12 {
		b = append(b, byte(scramble(uint64(i))))
	}
	s := told(b)
	for ahead := range 17 {
		for width := range 65 {
			r := Open(b)
			wantTake(t, r, ahead, value(s[:ahead]))
			wantTake(t, r, width, value(s[ahead:ahead+width]))
			wantReader(t, r, ahead+width, len(s)-ahead-width, api.OK, api.ErrTail)
		}
	}
}

// P1.2: widths are held from 0 to 64.
func TestTakeHoldsWidths(t *testing.T) {
	b := []byte{0x81, 0x23, 0x45, 0x67, 0x89, 0xab, 0xcd, 0xef}
	for _, width := range []int{64, 65, 72, 128, 1 << 32, math.MaxInt} {
		r := Open(b)
		for _, none := range []int{0, -1, -8, -64, math.MinInt} {
			wantTake(t, r, none, 0)
			wantReader(t, r, 0, 64, api.OK, api.ErrTail)
		}
		wantTake(t, r, width, 0x8123456789abcdef)
		wantReader(t, r, 64, 0, api.OK, api.OK)
	}
}

// P1.2: a reader of nothing is at its end, and has not failed.
func TestReaderOfNothing(t *testing.T) {
	for _, b := range [][]byte{nil, {}} {
		r := Open(b)
		wantReader(t, r, 0, 0, api.OK, api.OK)
		wantTake(t, r, 0, 0)
		wantTake(t, r, -1, 0)
		r.Fill()
		wantReader(t, r, 0, 0, api.OK, api.OK)
		wantTake(t, r, 1, 0)
		wantReader(t, r, 0, 0, api.ErrShort, api.ErrShort)
	}
}

// P1.2: one bit more than are left fails; as many as are left don't.
func TestTakeAtTheEnd(t *testing.T) {
	for many := range 9 {
		b := bytes.Repeat([]byte{0xff}, many)
		for ahead := range 8*many + 1 {
			left := 8*many - ahead
			r := Open(b)
			for range ahead {
				wantTake(t, r, 1, 1)
			}
			if left < 64 {
				wantTake(t, r, left+1, 0)
				wantReader(t, r, ahead, left, api.ErrShort, api.ErrShort)
				continue
			}
			wantTake(t, r, left+1, math.MaxUint64)
			wantReader(t, r, 64, 0, api.OK, api.OK)
		}
	}
	r := Open([]byte{0xa8})
	wantTake(t, r, 3, 5)
	wantTake(t, r, 5, 8)
	wantReader(t, r, 8, 0, api.OK, api.OK)
	wantTake(t, r, 0, 0)
	wantReader(t, r, 8, 0, api.OK, api.OK)
}

// wantFailed asks whether a reader that failed stays as it is, whatever is done with it.
func wantFailed(t *testing.T, r *Reader, at, left int, fail api.Errno) {
	t.Helper()
	wantReader(t, r, at, left, fail, fail)
	for _, width := range []int{0, 1, left, left + 1, 64, 65, -1, math.MinInt, math.MaxInt} {
		wantTake(t, r, width, 0)
		wantReader(t, r, at, left, fail, fail)
		r.Fill()
		wantReader(t, r, at, left, fail, fail)
	}
}

// P1.2: a reader that failed stays so, where a Fill would go on too, and where another error would apply.
func TestFailedStaysSo(t *testing.T) {
	r := Open([]byte{0xff, 0x80})
	wantTake(t, r, 9, 0x1ff)
	wantTake(t, r, 8, 0)
	wantFailed(t, r, 9, 7, api.ErrShort)

	r = Open([]byte{0xff, 0xff})
	wantTake(t, r, 9, 0x1ff)
	wantTake(t, r, 8, 0)
	wantFailed(t, r, 9, 7, api.ErrShort)

	r = Open([]byte{0xff, 0xff})
	wantTake(t, r, 9, 0x1ff)
	r.Fill()
	wantFailed(t, r, 9, 7, api.ErrForm)
}

// P1.2: what fills a byte may be bits 0 alone, wherever a 1 stands.
func TestFillOfReader(t *testing.T) {
	for at := range 8 {
		b := []byte{0x5a, ^byte(0xff >> at), 0xff}
		r := Open(b)
		wantTake(t, r, 8, 0x5a)
		wantTake(t, r, at, value(strings.Repeat("1", at)))
		r.Fill()
		if at == 0 {
			wantReader(t, r, 8, 16, api.OK, api.ErrTail)
			continue
		}
		wantReader(t, r, 16, 8, api.OK, api.ErrTail)
		r.Fill()
		wantTake(t, r, 8, 0xff)
		wantReader(t, r, 24, 0, api.OK, api.OK)
		for one := at; one < 8; one++ {
			c := bytes.Clone(b)
			c[1] |= 0x80 >> one
			r := Open(c)
			wantTake(t, r, 8, 0x5a)
			r.Take(at)
			r.Fill()
			wantReader(t, r, 8+at, 16-at, api.ErrForm, api.ErrForm)
		}
	}
}

// P1.2: where a byte ends, Fill leaves nothing out, whatever stands next.
func TestFillWhereAByteEnds(t *testing.T) {
	r := Open([]byte{0xff, 0x00})
	r.Fill()
	wantReader(t, r, 0, 16, api.OK, api.ErrTail)
	wantTake(t, r, 8, 0xff)
	r.Fill()
	wantReader(t, r, 8, 8, api.OK, api.ErrTail)
	wantTake(t, r, 1, 0)
	r.Fill()
	wantReader(t, r, 16, 0, api.OK, api.OK)
}

// P1.2, R5: a reader keeps bytes of its own, and changes none.
func TestReaderKeepsItsOwn(t *testing.T) {
	b := []byte{0x12, 0x34, 0x56}
	r := Open(b)
	wantTake(t, r, 4, 1)
	b[0], b[1] = 0, 0
	wantTake(t, r, 12, 0x234)
	if !bytes.Equal(b, []byte{0, 0, 0x56}) {
		t.Fatalf("the bytes were changed: %x", b)
	}
	q := Open(b)
	wantReader(t, q, 0, 24, api.OK, api.ErrTail)
	wantReader(t, r, 16, 8, api.OK, api.ErrTail)
}

// P1.3: what was put is taken, number by number, with fills between.
func TestPutIsTaken(t *testing.T) {
	const many = 20000
	number := func(i int) (n uint64, width int) {
		width = int(scramble(uint64(2*i)) % 65)
		n = scramble(uint64(2*i + 1))
		if width < 64 {
			n &= 1<<width - 1
		}
		return n, width
	}
	w := New()
	for i := range many {
		n, width := number(i)
		ahead := w.Len()
		w.Put(n, width)
		if w.Len() != ahead+width {
			t.Fatalf("%d bits were put, not %d", w.Len()-ahead, width)
		}
		if i%7 == 0 {
			w.Fill()
		}
	}
	r := Open(w.Bytes())
	for i := range many {
		n, width := number(i)
		wantTake(t, r, width, n)
		if i%7 == 0 {
			r.Fill()
		}
	}
	if r.At() != w.Len() || r.Fail() != api.OK {
		t.Fatalf("at %d of %d, failed with %d", r.At(), w.Len(), r.Fail())
	}
	r.Fill()
	wantReader(t, r, 8*len(w.Bytes()), 0, api.OK, api.OK)
}

// P1.3: of a number that doesn't fit its lowest bits are taken.
func TestPutThatDoesNotFit(t *testing.T) {
	w := New()
	w.Put(0x1ff, 4)
	w.Put(0x100, 8)
	r := Open(w.Bytes())
	wantTake(t, r, 4, 0xf)
	wantTake(t, r, 8, 0)
	r.Fill()
	wantReader(t, r, 16, 0, api.OK, api.OK)
}

// P1.2, P1.3: any bytes, taken in any widths, are put again as they were.
func FuzzTakenIsPut(f *testing.F) {
	f.Add([]byte{0xa8}, []byte{3, 2})
	f.Add([]byte{0xaf, 0xf8, 0x01}, []byte{3, 2, 0, 9, 64})
	f.Fuzz(func(t *testing.T, b, widths []byte) {
		r, w := Open(b), New()
		for _, x := range widths {
			width := int(x) % 65
			n := r.Take(width)
			if r.Fail() != api.OK {
				break
			}
			w.Put(n, width)
		}
		s := told(b)[:r.At()]
		wantWriter(t, w, s)
		if r.At()+r.Left() != 8*len(b) {
			t.Fatalf("%d behind and %d left of %d bytes", r.At(), r.Left(), len(b))
		}
	})
}
