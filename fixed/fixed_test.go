package fixed

import (
	"math"
	"slices"
	"testing"

	"serinette/api"
)

// edge is the greatest number of which all is promised; -edge is the least one.
const edge = 1 << 40

// chapter has the factors as the chapter lists them, order by order.
var chapter = [][]int{{}, {1}, {2, -1}, {3, -3, 1}, {4, -6, 4, -1}}

// none are numbers that aren't an order.
var none = []int{math.MinInt, math.MinInt + 1, -1 << 32, -5, -4, -2, -1, 5, 6, 7, 8, 32, 256, 257, 1 << 32, 1<<32 + 1, math.MaxInt - 1, math.MaxInt}

// foretold is what the next number behind x is foretold as, by the chapter's words: the sum of those ahead of it times their factors.
func foretold(x []int, order int) int {
	sum := 0
	for i, f := range chapter[order] {
		sum += f * x[len(x)-1-i]
	}
	return sum
}

// modelResidual is what Residual must be, number by number.
func modelResidual(x []int, order int) []int {
	var left []int
	for i := order; i < len(x); i++ {
		left = append(left, x[i]-foretold(x[:i], order))
	}
	return left
}

// modelRestore is what Restore must be, number by number.
func modelRestore(warm, rest []int) []int {
	x := slices.Clone(warm)
	for _, n := range rest {
		x = append(x, n+foretold(x, len(warm)))
	}
	return x
}

// unruly makes numbers that look unruly, from -most to most, always the same ones.
func unruly(many, most int) []int {
	x := make([]int, many)
	seed := uint64(many)*0x9e3779b97f4a7c15 + uint64(most)
	for i := range x {
		seed = seed*6364136223846793005 + 1442695040888963407
		x[i] = int(seed>>20)%(2*most+1) - most
	}
	return x
}

// some are lists of no numbers, of one and of more, small ones and great ones, up to both edges.
func some() [][]int {
	all := [][]int{
		nil, {}, {0}, {1}, {-1}, {edge}, {-edge},
		{edge, -edge, edge, -edge, edge, -edge, edge},
		{-edge, edge, -edge, edge, -edge, edge, -edge},
		{edge, edge, edge, edge, edge, edge},
		{-edge, -edge, -edge, -edge, -edge, -edge},
		{-edge, -edge, edge, edge, -edge, -edge, edge, edge},
		{0, 0, 0, 0, 1, 0, 0, 0, 0, 0},
		{0, 0, 0, 0, 0, edge, 0, 0, 0, 0, 0},
		{0, 0, 0, 0, 0, -edge, 0, 0, 0, 0, 0},
	}
	for many := range 12 {
		for _, most := range []int{1, 7, 1 << 15, 1 << 31, 1<<32 - 1, edge} {
			all = append(all, unruly(many, most))
		}
	}
	return append(all, unruly(4096, 1<<15), unruly(api.MaxBlock, 1<<32))
}

// P7.1, P7.2: the chapter's example, and back.
func TestExample(t *testing.T) {
	x := []int{1, 4, 9, 16, 25}
	for order, want := range map[int][]int{2: {2, 2, 2}, 3: {0, 0}} {
		left, e := Residual(x, order)
		if e != api.OK || !slices.Equal(left, want) {
			t.Errorf("order %d: %v, %v", order, left, e)
		}
		back, e := Restore(x[:order], want)
		if e != api.OK || !slices.Equal(back, x) {
			t.Errorf("order %d back: %v, %v", order, back, e)
		}
	}
}

// P7.1: the factors of each order, that of the sample just ahead first.
func TestFactors(t *testing.T) {
	if len(chapter) != api.MaxFixed+1 {
		t.Fatalf("the chapter lists factors of %d orders", len(chapter))
	}
	for order, want := range chapter {
		if got := Factors(order); !slices.Equal(got, want) {
			t.Errorf("order %d: %v", order, got)
		}
	}
}

// P7.1: an order that isn't one has no factors.
func TestFactorsNone(t *testing.T) {
	for _, order := range none {
		if got := Factors(order); len(got) != 0 {
			t.Errorf("order %d: %v", order, got)
		}
	}
}

// R5: whoever changes factors changes no later answer.
func TestFactorsOwn(t *testing.T) {
	for order, want := range chapter {
		got := Factors(order)
		for i := range got {
			got[i] = 99
		}
		if again := Factors(order); !slices.Equal(again, want) {
			t.Errorf("order %d: %v", order, again)
		}
	}
}

// P7.1: what is left, of each order, of numbers of all kinds.
func TestResidual(t *testing.T) {
	for order := 0; order <= api.MaxFixed; order++ {
		for _, x := range some() {
			if len(x) < order {
				continue
			}
			left, e := Residual(x, order)
			if e != api.OK || len(left) != len(x)-order || !slices.Equal(left, modelResidual(x, order)) {
				t.Errorf("order %d of %d numbers: %v", order, len(x), e)
			}
		}
	}
}

// P7.1: a single 1 shows each factor, with its sign turned over, at its place.
func TestResidualOfOne(t *testing.T) {
	x := []int{0, 0, 0, 0, 1, 0, 0, 0, 0, 0}
	for order, want := range [][]int{
		{0, 0, 0, 0, 1, 0, 0, 0, 0, 0},
		{0, 0, 0, 1, -1, 0, 0, 0, 0},
		{0, 0, 1, -2, 1, 0, 0, 0},
		{0, 1, -3, 3, -1, 0, 0},
		{1, -4, 6, -4, 1, 0},
	} {
		if left, e := Residual(x, order); e != api.OK || !slices.Equal(left, want) {
			t.Errorf("order %d: %v, %v", order, left, e)
		}
	}
}

// P7.1: at both edges, where the most is left.
func TestResidualEdges(t *testing.T) {
	x := []int{edge, -edge, edge, -edge, edge}
	for order, want := range [][]int{
		{edge, -edge, edge, -edge, edge},
		{-2 * edge, 2 * edge, -2 * edge, 2 * edge},
		{4 * edge, -4 * edge, 4 * edge},
		{-8 * edge, 8 * edge},
		{16 * edge},
	} {
		if left, e := Residual(x, order); e != api.OK || !slices.Equal(left, want) {
			t.Errorf("order %d: %v, %v", order, left, e)
		}
	}
}

// P7.1: an order that isn't one is told, and first, where there are too few numbers for it as well (R2); nothing stands beside it (R3).
func TestResidualArg(t *testing.T) {
	for _, order := range none {
		for _, x := range [][]int{nil, {}, {1}, {1, 2, 3, 4}, {1, 2, 3, 4, 5, 6, 7, 8, 9}, make([]int, 300)} {
			if left, e := Residual(x, order); e != api.ErrArg || len(left) != 0 {
				t.Errorf("order %d of %d numbers: %v, %v", order, len(x), left, e)
			}
		}
	}
}

// P7.1: fewer numbers than the order are too few; just as many leave nothing, and that is no error; one more leaves one.
func TestResidualShort(t *testing.T) {
	x := []int{3, 1, 4, 1, 5}
	for order := 0; order <= api.MaxFixed; order++ {
		for many := range order {
			if left, e := Residual(x[:many], order); e != api.ErrShort || len(left) != 0 {
				t.Errorf("order %d of %d numbers: %v, %v", order, many, left, e)
			}
		}
		if left, e := Residual(x[:order], order); e != api.OK || len(left) != 0 {
			t.Errorf("order %d of as many numbers: %v, %v", order, left, e)
		}
		if left, e := Residual(x[:order+1], order); e != api.OK || len(left) != 1 {
			t.Errorf("order %d of one more: %v, %v", order, left, e)
		}
	}
}

// R4: no list at all is an empty one.
func TestNoList(t *testing.T) {
	for _, x := range [][]int{nil, {}} {
		if left, e := Residual(x, 0); e != api.OK || len(left) != 0 {
			t.Errorf("left of nothing: %v, %v", left, e)
		}
		if left, e := Residual(x, 1); e != api.ErrShort || len(left) != 0 {
			t.Errorf("left of nothing by the order 1: %v, %v", left, e)
		}
		for _, rest := range [][]int{nil, {}} {
			if back, e := Restore(x, rest); e != api.OK || len(back) != 0 {
				t.Errorf("restored of nothing: %v, %v", back, e)
			}
		}
	}
}

// P7.2: warm, and behind it what is foretold and each of rest, of each order; and of an empty warm and an empty rest.
func TestRestore(t *testing.T) {
	for order := 0; order <= api.MaxFixed; order++ {
		for _, warm := range [][]int{make([]int, order), unruly(order, 9), unruly(order, 1<<20)} {
			for _, rest := range [][]int{nil, {}, {0}, {-7}, {0, 0, 0, 0, 0, 0}, {1, 0, 0, 0, 0, 0}, {0, 1, 0, 0, 0, 0, 0}, unruly(30, 1<<10)} {
				want := modelRestore(warm, rest)
				if back, e := Restore(warm, rest); e != api.OK || len(back) != order+len(rest) || !slices.Equal(back, want) {
					t.Errorf("warm %v, rest %v: %v, %v", warm, rest, back, e)
				}
			}
		}
	}
}

// P7.2: answers that are reckoned by hand.
func TestRestoreByHand(t *testing.T) {
	for _, x := range []struct{ warm, rest, want []int }{
		{nil, []int{5, -6, 7}, []int{5, -6, 7}},
		{[]int{10}, []int{1, -2, 3}, []int{10, 11, 9, 12}},
		{[]int{1, 3}, []int{0, 1, -1}, []int{1, 3, 5, 8, 10}},
		{[]int{1, 4, 9}, []int{0, 1, 0}, []int{1, 4, 9, 16, 26, 39}},
		{[]int{0, 1, 8, 27}, []int{0, 0, -5}, []int{0, 1, 8, 27, 64, 125, 211}},
		{[]int{7}, nil, []int{7}},
		{[]int{7, -8, 9, -10}, nil, []int{7, -8, 9, -10}},
	} {
		if back, e := Restore(x.warm, x.rest); e != api.OK || !slices.Equal(back, x.want) {
			t.Errorf("warm %v, rest %v: %v, %v", x.warm, x.rest, back, e)
		}
	}
}

// P7.2: the last number may be any, as nothing is foretold by it.
func TestRestoreLast(t *testing.T) {
	for order := 0; order <= api.MaxFixed; order++ {
		for _, warm := range [][]int{make([]int, order), unruly(order, edge)} {
			base, e := Restore(warm, make([]int, 1))
			if e != api.OK || len(base) != order+1 {
				t.Fatalf("order %d: %v, %v", order, base, e)
			}
			next := base[order]
			for _, last := range []int{edge, edge + 1, -edge - 1, 1 << 50, -1 << 50, 1 << 62, math.MaxInt, math.MinInt} {
				// What is left must be a number itself.
				if last > 0 && next < last-math.MaxInt || last < 0 && next > last-math.MinInt {
					continue
				}
				back, e := Restore(warm, []int{last - next})
				if e != api.OK || !slices.Equal(back, append(slices.Clone(warm), last)) {
					t.Errorf("order %d, last %d: %v, %v", order, last, back, e)
				}
			}
		}
	}
}

// P7.2: warm of more than MaxFixed numbers, whatever rest is; nothing stands beside it (R3).
func TestRestoreArg(t *testing.T) {
	for _, many := range []int{5, 6, 7, 8, 32, 33, 256, 260, 65536} {
		for _, rest := range [][]int{nil, {}, {1}, {1, 2, 3, 4, 5, 6}} {
			if back, e := Restore(make([]int, many), rest); e != api.ErrArg || len(back) != 0 {
				t.Errorf("warm of %d numbers: %v", many, e)
			}
		}
	}
	if back, e := Restore([]int{1, 2, 3, 4}, []int{1}); e != api.OK || len(back) != 5 {
		t.Errorf("warm of MaxFixed numbers: %v, %v", back, e)
	}
}

// P7.3: what is left of numbers restores them.
func TestThereAndBack(t *testing.T) {
	for order := 0; order <= api.MaxFixed; order++ {
		for _, x := range some() {
			if len(x) < order {
				continue
			}
			left, e := Residual(x, order)
			if e != api.OK {
				t.Fatalf("order %d of %d numbers: %v", order, len(x), e)
			}
			back, e := Restore(x[:order], left)
			if e != api.OK || !slices.Equal(back, x) {
				t.Errorf("order %d of %d numbers: %v", order, len(x), e)
			}
		}
	}
}

// P7.3: what an order more leaves is how much each that an order leaves is above the one ahead of it.
func TestOrderMore(t *testing.T) {
	for order := 0; order < api.MaxFixed; order++ {
		for _, x := range some() {
			if len(x) <= order {
				continue
			}
			left, _ := Residual(x, order)
			more, e := Residual(x, order+1)
			if e != api.OK || len(more) != len(left)-1 {
				t.Fatalf("order %d of %d numbers: %d and %d are left, %v", order+1, len(x), len(left), len(more), e)
			}
			for i, n := range more {
				if n != left[i+1]-left[i] {
					t.Fatalf("order %d of %d numbers: %d at %d", order+1, len(x), n, i)
				}
			}
		}
	}
}

// polynomial is the numbers of one, at from and behind it; factors[i] is that of the power i.
func polynomial(factors []int, from, many int) []int {
	x := make([]int, many)
	for i := range x {
		for d := len(factors) - 1; d >= 0; d-- {
			x[i] = x[i]*(from+i) + factors[d]
		}
	}
	return x
}

// P7.3: nothing is left of the numbers of a polynomial of a lesser degree than the order; of one of the order's own degree the same is left everywhere: its highest factor as many times as that power's steps are.
func TestPolynomials(t *testing.T) {
	steps := []int{1, 1, 2, 6, 24}
	for _, all := range [][]int{{5, -7, 11, -13, 17}, {-edge / 2, 3, 0, 0, 1}, {0, 0, 0, 0, -1}, {1, 1, 1, 1, 1}} {
		for degree := 0; degree <= api.MaxFixed; degree++ {
			x := polynomial(all[:degree+1], -20, 41)
			for order := degree; order <= api.MaxFixed; order++ {
				want := 0
				if order == degree {
					want = all[degree] * steps[degree]
				}
				left, e := Residual(x, order)
				if e != api.OK || len(left) != len(x)-order {
					t.Fatalf("degree %d, order %d: %v", degree, order, e)
				}
				if slices.ContainsFunc(left, func(n int) bool { return n != want }) {
					t.Errorf("degree %d, order %d: %v, not %d", degree, order, left, want)
				}
			}
		}
	}
	// Without any factor it is 0 everywhere: the order 0 leaves nothing either.
	if left, e := Residual(make([]int, 9), 0); e != api.OK || !slices.Equal(left, make([]int, 9)) {
		t.Errorf("of nothing: %v, %v", left, e)
	}
}

// P7.3: where nothing is left, the first numbers tell all of a polynomial.
func TestPolynomialsBack(t *testing.T) {
	for order := 1; order <= api.MaxFixed; order++ {
		x := polynomial([]int{5, -7, 11, -13}[:order], -20, 41)
		back, e := Restore(x[:order], make([]int, len(x)-order))
		if e != api.OK || !slices.Equal(back, x) {
			t.Errorf("order %d: %v, %v", order, back, e)
		}
	}
}

// R5: what is handed in is not changed, not even where the list has room behind it; answers are memory of their own.
func TestHandedIn(t *testing.T) {
	for order := 0; order <= api.MaxFixed; order++ {
		x := unruly(20, edge)
		kept := slices.Clone(x)
		left, _ := Residual(x[:15], order)
		rest := slices.Clone(left)
		back, _ := Restore(x[:order], left)
		if !slices.Equal(x, kept) || !slices.Equal(left, rest) {
			t.Errorf("order %d: what was handed in is another one", order)
		}
		for _, answer := range [][]int{left, back} {
			for i := range answer {
				answer[i] = 99
			}
		}
		if !slices.Equal(x, kept) {
			t.Errorf("order %d: an answer is what was handed in", order)
		}
		again, _ := Restore(x[:order], rest)
		if !slices.Equal(again, kept[:15]) {
			t.Errorf("order %d: %v", order, again)
		}
	}
}

// R1: of other numbers calls end.
func TestFarNumbers(t *testing.T) {
	x := []int{math.MinInt, math.MaxInt, math.MinInt, math.MinInt, math.MaxInt, math.MaxInt, 0, math.MinInt}
	for order := 0; order <= api.MaxFixed; order++ {
		if left, e := Residual(x, order); e != api.OK || len(left) != len(x)-order {
			t.Errorf("order %d: %v, %v", order, left, e)
		}
		if back, e := Restore(x[:order], x); e != api.OK || len(back) != len(x)+order {
			t.Errorf("order %d: %v, %v", order, back, e)
		}
	}
}

// P7.1, P7.2, P7.3: any numbers by any order: an error, or what the factors leave, which restores them.
func FuzzResidual(f *testing.F) {
	f.Add([]byte("1, 4, 9, 16, 25"), 2)
	f.Add([]byte(nil), 0)
	f.Add([]byte{0, 0xff}, 4)
	f.Add([]byte{1, 2, 3}, 5)
	f.Add([]byte{1, 2, 3}, -1)
	f.Fuzz(func(t *testing.T, b []byte, order int) {
		x := make([]int, len(b))
		for i, c := range b {
			x[i] = int(int8(c)) * (edge / 128)
		}
		left, e := Residual(x, order)
		want := api.OK
		switch {
		case order < 0 || order > 4:
			want = api.ErrArg
		case len(x) < order:
			want = api.ErrShort
		}
		if e != want || e != api.OK && len(left) != 0 {
			t.Fatalf("order %d of %d numbers: %v, %v", order, len(x), left, e)
		}
		if e != api.OK {
			return
		}
		if !slices.Equal(left, modelResidual(x, order)) {
			t.Fatalf("order %d of %v: %v", order, x, left)
		}
		if back, e := Restore(x[:order], left); e != api.OK || !slices.Equal(back, x) {
			t.Fatalf("order %d of %v: %v, %v", order, x, back, e)
		}
	})
}
