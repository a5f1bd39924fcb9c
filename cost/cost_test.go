package cost

import (
	"encoding/binary"
	"math"
	"slices"
	"testing"

	"serinette/api"
)

// The ends of what is near, written out.
const (
	least    = -8589934592
	greatest = 8589934591
)

// far are numbers that aren't near.
var far = []int{math.MinInt, math.MinInt + 1, -1 << 62, -1 << 34, least - 1, greatest + 1, 1 << 34, 1 << 62, math.MaxInt - 1, math.MaxInt}

// ks are all k, and what isn't one, with what they are held to.
func ks() [][2]int {
	all := [][2]int{{math.MinInt, 0}, {math.MinInt + 1, 0}, {-1 << 32, 0}, {-64, 0}, {-31, 0}, {-2, 0}, {-1, 0}, {31, 30}, {32, 30}, {33, 30}, {63, 30}, {64, 30}, {65, 30}, {256, 30}, {1 << 32, 30}, {math.MaxInt - 1, 30}, {math.MaxInt, 30}}
	for k := range 31 {
		all = append(all, [2]int{k, k})
	}
	return all
}

// modelSize is how many bits a near number has by a k that is held, by chapter 2's words.
func modelSize(n, k int) int {
	folded := 2 * n
	if n < 0 {
		folded = 2*-n - 1
	}
	return folded/(1<<k) + 1 + k
}

// modelBits is what Bits must tell of near numbers by a k that is held.
func modelBits(l []int, k int) int {
	sum := 0
	for _, n := range l {
		sum += modelSize(n, k)
	}
	return sum
}

// modelWidth is what Width must tell of near numbers: each width is tried.
func modelWidth(l []int) int {
	if !slices.ContainsFunc(l, func(n int) bool { return n != 0 }) {
		return 0
	}
	width, half := 1, 1
	for slices.ContainsFunc(l, func(n int) bool { return n < -half || n > half-1 }) {
		width, half = width+1, 2*half
	}
	return width
}

// way is one way of writing a part, and how many bits that has so.
type way struct {
	part api.Part
	many int
}

// modelWays are all ways of writing near numbers, in order, up to the k 30.
func modelWays(l []int) []way {
	var all []way
	for k := 0; k <= 30; k++ {
		all = append(all, way{api.Part{K: k}, modelBits(l, k)})
	}
	if width := modelWidth(l); width <= 31 {
		all = append(all, way{api.Part{K: width, Raw: true}, 5 + width*len(l)})
	}
	return all
}

// modelBest is the first one of all those ways with fewest bits whose k, if it has one, is most, held, or less.
func modelBest(all []way, most int) way {
	chosen := all[0]
	for _, w := range all[1:] {
		if w.many < chosen.many && (w.part.Raw || w.part.K <= most) {
			chosen = w
		}
	}
	return chosen
}

// best holds an answer against the way that it must be, and its bits against those that Each tells.
func best(t *testing.T, l []int, most int, want api.Part, many int) {
	t.Helper()
	part, got, e := Best(l, most)
	if part != want || got != many || e != api.OK {
		t.Errorf("%v up to %d: %v, %d, %v; not %v, %d", l, most, part, got, e, want, many)
	}
	if each := Each(l, part); each != got {
		t.Errorf("%v up to %d: %d bits, of which Each tells %d", l, most, got, each)
	}
}

// model holds all answers of near numbers against the models'.
func model(t *testing.T, l []int) {
	t.Helper()
	if got, want := Width(l), modelWidth(l); got != want {
		t.Fatalf("%v: the width %d, not %d", l, got, want)
	}
	all := modelWays(l)
	for _, k := range ks() {
		want := all[k[1]].many
		if got, each := Bits(l, k[0]), Each(l, api.Part{K: k[0]}); got != want || each != want {
			t.Fatalf("%v by %d: %d and %d bits, not %d", l, k[0], got, each, want)
		}
		chosen := modelBest(all, k[1])
		best(t, l, k[0], chosen.part, chosen.many)
	}
}

// filled is many times the same number.
func filled(many, n int) []int {
	return slices.Repeat([]int{n}, many)
}

// unruly makes numbers that look unruly, from -most to most, always the same ones.
func unruly(many, most int) []int {
	x := make([]int, many)
	state := uint64(many)<<45 ^ uint64(most)
	for i := range x {
		state = state*0x5851f42d4c957f2d + 0x14057b7ef767814f
		x[i] = int(state>>19)%(2*most+1) - most
	}
	return x
}

// inputs are lists of near numbers: of one size, of many, with one or some that are much further from 0 than the others.
func inputs() [][]int {
	all := [][]int{nil, {least}, {greatest}, {least, greatest}, {greatest, least, 0}}
	for _, many := range []int{1, 2, 5, 6, 7, 40} {
		for size := range 34 {
			most := 1<<size - 1
			peak := unruly(many, most>>(size/2))
			peak[many-1] = -most
			some := unruly(many, most>>(size/3))
			for i := 0; i < many; i += 4 {
				some[i] = most
			}
			all = append(all, unruly(many, most), filled(many, most), filled(many, -most-1), peak, some)
		}
	}
	return all
}

// misplaced hands each place of near numbers one that isn't near.
func misplaced(each func(l []int)) {
	for _, n := range far {
		for _, many := range []int{1, 2, 3, 17} {
			for place := range many {
				l := unruly(many, 100)
				l[place] = n
				each(l)
			}
			l := filled(many, 0)
			l[many-1] = n
			each(l)
		}
		each([]int{n, n})
	}
}

// P13.1, P13.2: the chapter's examples, and others that are reckoned by hand.
func TestExamples(t *testing.T) {
	if Raw != 31 {
		t.Error(Raw)
	}
	best(t, []int{0, 0, 0}, 14, api.Part{K: 0}, 3)
	if k0, k1 := Bits([]int{1, -1}, 0), Bits([]int{1, -1}, 1); k0 != 5 || k1 != 5 {
		t.Error(k0, k1)
	}
	best(t, []int{1, -1}, 14, api.Part{K: 0}, 5)
	// Folded these are 6, 20, 9, 0: by 2 their higher parts are 1, 5, 2, 0; by 3 0, 2, 1, 0.
	for k, want := range []int{39, 25, 20, 19, 21, 24} {
		if got := Bits([]int{3, 10, -5, 0}, k); got != want {
			t.Errorf("by %d: %d bits", k, got)
		}
	}
	best(t, []int{3, 10, -5, 0}, 30, api.Part{K: 3}, 19)
	best(t, []int{3, 10, -5, 0}, 3, api.Part{K: 3}, 19)
	best(t, []int{3, 10, -5, 0}, 2, api.Part{K: 2}, 20)
	best(t, []int{3, 10, -5, 0}, 1, api.Part{K: 1}, 25)
	best(t, []int{3, 10, -5, 0}, 0, api.Part{K: 5, Raw: true}, 25)
	// Folded two are 5 and 6: by 0 there are 21 bits, by 1 25, and with Raw 35.
	best(t, []int{0, 0, 0, 0, 0, 0, 0, 0, -3, 3}, 30, api.Part{K: 0}, 21)
	l := []int{1, -2}
	if by, width := Bits(l, 1), Width(l); by != 6 || width != 2 {
		t.Error(by, width)
	}
	rawEach(t, l, 2, 9)
	best(t, []int{1 << 32}, 30, api.Part{K: 30}, 39)
	best(t, []int{1 << 20}, 14, api.Part{K: 22, Raw: true}, 27)
	best(t, []int{1 << 20}, 30, api.Part{K: 20}, 23)
}

// P13.1, P13.2, R4: no numbers at all have no bits, by k 0 first; with Raw five.
func TestNone(t *testing.T) {
	for _, l := range [][]int{nil, {}} {
		if got := Width(l); got != 0 {
			t.Errorf("the width %d", got)
		}
		for _, k := range ks() {
			if got, each := Bits(l, k[0]), Each(l, api.Part{K: k[0]}); got != 0 || each != 0 {
				t.Errorf("by %d: %d and %d bits", k[0], got, each)
			}
			best(t, l, k[0], api.Part{}, 0)
		}
		for k := 0; k <= 31; k++ {
			rawEach(t, l, k, 5)
		}
		for _, k := range []int{math.MinInt, -32, -1, 32, 33, 64, math.MaxInt} {
			rawEach(t, l, k, -1)
		}
	}
}

// P13.1, P13.2: numbers that are all 0 have the width 0; a bit each by k 0, five together with Raw, of which there are fewer from the sixth number on.
func TestZeros(t *testing.T) {
	for many := 1; many <= 40; many++ {
		l := filled(many, 0)
		if got := Width(l); got != 0 {
			t.Errorf("%d: the width %d", many, got)
		}
		rawEach(t, l, 0, 5)
		rawEach(t, l, 1, 5+many)
		rawEach(t, l, -1, -1)
		for _, k := range ks() {
			if got := Bits(l, k[0]); got != many*(k[1]+1) {
				t.Errorf("%d by %d: %d bits", many, k[0], got)
			}
			if many <= 5 {
				best(t, l, k[0], api.Part{}, many)
			} else {
				best(t, l, k[0], api.Part{Raw: true}, 5)
			}
		}
	}
}

// P13.1, P13.2: numbers of all sizes, by all k, and up to all of them.
func TestModel(t *testing.T) {
	for _, l := range inputs() {
		model(t, l)
	}
}

// P13.1, P13.2: one number, at and beside each power of 2.
func TestOne(t *testing.T) {
	for size := range 33 {
		for _, d := range []int{-2, -1, 0, 1, 2} {
			model(t, []int{1<<size + d})
			model(t, []int{-1<<size + d})
		}
	}
	for n := -300; n <= 300; n++ {
		model(t, []int{n})
	}
}

// P13.1, P13.2: the numbers at the ends of what is near are told of; those beside them, and further ones, aren't, wherever they stand.
func TestNear(t *testing.T) {
	for _, n := range []int{least, least + 1, greatest - 1, greatest} {
		for _, l := range [][]int{{n}, {n, 0, 1}, {0, n, 1}, {0, 1, n}, {n, n}} {
			model(t, l)
			if got := Width(l); got != 34 {
				t.Errorf("%v: the width %d", l, got)
			}
		}
	}
	best(t, []int{greatest}, 30, api.Part{K: 30}, 46)
	best(t, []int{least}, 30, api.Part{K: 30}, 46)
	best(t, []int{least}, 0, api.Part{K: 0}, 17179869184)
	misplaced(func(l []int) {
		if got := Width(l); got != -1 {
			t.Errorf("%v: the width %d", l, got)
		}
		for _, k := range ks() {
			if got, each := Bits(l, k[0]), Each(l, api.Part{K: k[0]}); got != -1 || each != -1 {
				t.Errorf("%v by %d: %d and %d bits", l, k[0], got, each)
			}
			if part, many, e := Best(l, k[0]); part != (api.Part{}) || many != 0 || e != api.ErrRange {
				t.Errorf("%v up to %d: %v, %d, %v", l, k[0], part, many, e)
			}
		}
		// Not even -1, which Width tells, is a width.
		for _, k := range []int{math.MinInt, -2, -1, 0, 1, 30, 31, 32, 34, 35, 36, 64, math.MaxInt} {
			rawEach(t, l, k, -1)
		}
	})
}

// rawEach holds what Each tells of a part with Raw against what it must.
func rawEach(t *testing.T, l []int, k, want int) {
	t.Helper()
	if got := Each(l, api.Part{K: k, Raw: true}); got != want {
		t.Errorf("%v with %d bits each: %d, not %d", l, k, got, want)
	}
}

// P13.1: at and beside each place where the width changes, above 0 and below, wherever the number stands.
func TestWidths(t *testing.T) {
	for width := 1; width <= 34; width++ {
		edge := 1 << (width - 1)
		for _, c := range []struct{ n, want int }{{edge - 1, width}, {edge, width + 1}, {-edge, width}, {-edge - 1, width + 1}} {
			if c.n == 0 {
				c.want = 0
			}
			if c.n < least || c.n > greatest {
				c.want = -1
			}
			for _, l := range [][]int{{c.n}, {c.n, 0, 0}, {0, c.n, 0}, {0, 0, c.n}, {c.n, c.n}, {0, c.n / 2, c.n, c.n / 4}} {
				if got := Width(l); got != c.want {
					t.Errorf("%v: the width %d, not %d", l, got, c.want)
				}
				told(t, l, c.want)
			}
		}
	}
}

// told holds what Each tells of a part with Raw against its width, by all numbers of bits.
func told(t *testing.T, l []int, width int) {
	t.Helper()
	for _, k := range []int{math.MinInt, math.MinInt + 1, -1 << 32, -32, math.MaxInt - 1, math.MaxInt, 1 << 32, 1<<32 + 31} {
		rawEach(t, l, k, -1)
	}
	for k := -2; k <= 70; k++ {
		want := -1
		if width >= 0 && k >= width && k <= 31 {
			want = 5 + k*len(l)
		}
		rawEach(t, l, k, want)
	}
}

// P13.1, P13.2: there is no way with Raw of numbers whose width is above it, by one or by more; of those of that width there is.
func TestAboveRaw(t *testing.T) {
	for _, n := range []int{1<<30 - 1, -1 << 30} {
		rawEach(t, []int{n, 0}, 31, 67)
		best(t, []int{n, 0}, 0, api.Part{K: 31, Raw: true}, 67)
		best(t, filled(6, n), 14, api.Part{K: 31, Raw: true}, 191)
		best(t, filled(6, n), 30, api.Part{K: 31, Raw: true}, 191)
	}
	for _, n := range []int{1 << 30, -1<<30 - 1, 1<<31 - 1, 1 << 31, -1 << 31, -1<<31 - 1, greatest, least} {
		for _, l := range [][]int{{n}, {n, 0}, {0, n}, filled(40, n)} {
			rawEach(t, l, 31, -1)
			rawEach(t, l, Width(l), -1)
			for most := range 31 {
				if part, _, e := Best(l, most); part.Raw || e != api.OK {
					t.Errorf("%v up to %d: %v, %v", l, most, part, e)
				}
			}
		}
	}
}

// P13.2: of several k that have as few bits it is the first one.
func TestFirstK(t *testing.T) {
	for j := 1; j <= 31; j++ {
		// Folded this is 2^j: it has j + 2 bits by j - 1, by j, and by j + 1.
		n := 1 << (j - 1)
		for _, k := range []int{j - 1, j, j + 1} {
			if k <= 30 && Bits([]int{n}, k) != j+2 {
				t.Errorf("%d by %d: %d bits", n, k, Bits([]int{n}, k))
			}
		}
		for most := j - 1; most <= 31; most++ {
			best(t, []int{n}, most, api.Part{K: j - 1}, j+2)
		}
		// Folded this is 2^j - 1: it has j + 1 bits by j - 1, and by j.
		for most := j - 1; most <= 31; most++ {
			best(t, []int{-n}, most, api.Part{K: j - 1}, j+1)
			best(t, []int{-n, -n, -n}, most, api.Part{K: j - 1}, 3*j+3)
		}
	}
	// Folded these are 2 and 1, three times: by 0 and by 1 there are 15 bits.
	best(t, []int{1, -1, 1, -1, 1, -1}, 30, api.Part{K: 0}, 15)
	// Folded these are 4, 4, 2, 2: by 0 there are 16 bits, by 1 and by 2 14.
	best(t, []int{2, 2, 1, 1}, 30, api.Part{K: 1}, 14)
	best(t, []int{2, 2, 1, 1}, 0, api.Part{K: 0}, 16)
}

// P13.2: where a k has as few bits as Raw it is the k; where it has one more it is Raw.
func TestFirstRaw(t *testing.T) {
	for width := 1; width <= 31; width++ {
		// By width - 1 each has a bit more than with Raw: with Raw there are five ahead of them.
		n := -1 << (width - 1)
		best(t, filled(4, n), 31, api.Part{K: width - 1}, 4*width+4)
		best(t, filled(5, n), 31, api.Part{K: width - 1}, 5*width+5)
		best(t, filled(6, n), 31, api.Part{K: width, Raw: true}, 6*width+5)
		// Up to width - 2 each has two more.
		if width > 1 {
			best(t, filled(2, n), width-2, api.Part{K: width - 2}, 2*width+4)
			best(t, filled(3, n), width-2, api.Part{K: width, Raw: true}, 3*width+5)
		}
	}
	// Zeros have as few bits by k 0 as with Raw, if there are five.
	best(t, filled(5, 0), 14, api.Part{}, 5)
	best(t, filled(6, 0), 14, api.Part{Raw: true}, 5)
}

// P13.2, P13.3: with more ways it has no more bits, and no way that there is has fewer; the greatest k is one of them.
func TestMoreWays(t *testing.T) {
	for _, l := range inputs() {
		last := math.MaxInt
		for most := -1; most <= 31; most++ {
			part, many, e := Best(l, most)
			if e != api.OK || many > last {
				t.Fatalf("%v up to %d: %v, %d, %v; %d with fewer ways", l, most, part, many, e, last)
			}
			if !part.Raw && (part.K < 0 || part.K > max(0, min(most, 30))) {
				t.Fatalf("%v up to %d: %v", l, most, part)
			}
			for k := 0; k <= min(most, 31); k++ {
				raw := Each(l, api.Part{K: k, Raw: true})
				if by := Each(l, api.Part{K: k}); by < many || raw >= 0 && raw < many {
					t.Fatalf("%v up to %d: %v, %d; %d and %d by %d", l, most, part, many, by, raw, k)
				}
			}
			last = many
		}
	}
	// A number that is far has fewer bits by each further k, the last one too.
	for most := range 31 {
		best(t, []int{greatest}, most, api.Part{K: most}, modelSize(greatest, most))
	}
}

// P13.3: a part that is longer by some numbers has no fewer bits, whatever they are, by each way and by the best one.
func TestLonger(t *testing.T) {
	for _, size := range []int{0, 1, 3, 8, 20, 30, 33} {
		l := slices.Concat(unruly(12, 1<<size), filled(9, 0), unruly(5, 3))
		for i := range l {
			l[i] = min(l[i], greatest)
		}
		for most := range 31 {
			last, lastBy := 0, 0
			for many := range len(l) + 1 {
				_, got, e := Best(l[:many], most)
				by := Bits(l[:many], most)
				if e != api.OK || got < last || by < lastBy {
					t.Fatalf("%v up to %d: %d and %d bits, less than %d or %d", l[:many], most, got, by, last, lastBy)
				}
				last, lastBy = got, by
			}
		}
	}
}

// P13.2: of a long part no number is left out, be it the first one that is far, or the last one.
func TestLong(t *testing.T) {
	for _, size := range []int{2, 9, 16, 30} {
		l := unruly(65536, 1<<size)
		for _, c := range []struct{ place, n int }{{0, 1 << 32}, {len(l) - 1, -1 << 32}, {len(l) / 2, least}} {
			l[c.place] = c.n
			all := modelWays(l)
			for _, most := range []int{0, 1, 14, 30} {
				chosen := modelBest(all, most)
				if part, many, e := Best(l, most); part != chosen.part || many != chosen.many || e != api.OK {
					t.Errorf("%d numbers of the size %d up to %d: %v, %d, %v; not %v", len(l), size, most, part, many, e, chosen)
				}
			}
			l[c.place] = 0
		}
	}
}

// R5, R6: what is handed in is not changed, nor what stands behind it in its memory; asked again, the answers are the same.
func TestHandedIn(t *testing.T) {
	long := slices.Concat(unruly(30, 5000), []int{greatest, 7})
	kept := slices.Clone(long)
	l := long[:30]
	for range 2 {
		model(t, l)
		told(t, l, modelWidth(l))
		if !slices.Equal(long, kept) {
			t.Fatalf("%v was changed to %v", kept, long)
		}
	}
}

// P13.1, P13.2: any numbers, with any k.
func FuzzBest(f *testing.F) {
	f.Add([]byte{}, 14)
	f.Add([]byte{1, 0, 0, 0, 0, 32, 255, 255, 255, 255, 255, 31}, 14)
	f.Add([]byte{0, 0, 0, 0, 2, 0}, 30)
	f.Add([]byte{0, 0, 0, 0, 2, 0, 255, 255, 255, 255, 255, 1}, -1)
	f.Fuzz(func(t *testing.T, b []byte, most int) {
		var l []int
		for ; len(b) >= 6 && len(l) < 200; b = b[6:] {
			// Of the last byte the lowest two bits tell the highest ones of a number of 34 bits, the others how near to 0 it is.
			n := int(binary.LittleEndian.Uint32(b)) | int(b[4]&3)<<32
			l = append(l, (n-1<<33)>>(b[5]%40))
		}
		chosen := modelBest(modelWays(l), max(0, min(most, 30)))
		best(t, l, most, chosen.part, chosen.many)
		if got, want := Width(l), modelWidth(l); got != want {
			t.Errorf("%v: the width %d, not %d", l, got, want)
		}
		if got, want := Bits(l, most), modelBits(l, max(0, min(most, 30))); got != want {
			t.Errorf("%v by %d: %d bits, not %d", l, most, got, want)
		}
	})
}
