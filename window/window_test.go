package window

import (
	"math"
	"math/big"
	"slices"
	"testing"

	"serinette/api"
)

// edge is the greatest number of which all is promised; -edge is the least one.
const edge = 1 << 40

// shapes are all there are.
var shapes = []int{Flat, Tent, Hill}

// noShapes are numbers that no shape has.
var noShapes = []int{math.MinInt, math.MinInt + 1, -1 << 32, -256, -3, -2, -1, 3, 4, 5, 8, 256, 257, 258, 1 << 32, 1<<32 + 1, 1<<32 + 2, math.MaxInt - 1, math.MaxInt}

// tooMany and tooFew are numbers of places that can't be, even where there may be none.
var (
	tooMany = []int{api.MaxBlock + 1, api.MaxBlock + 2, 1 << 31, 1 << 32, 1<<32 + 3, math.MaxInt - 1, math.MaxInt}
	tooFew  = []int{math.MinInt, math.MinInt + 1, -1<<32 + 3, -1 << 31, -api.MaxBlock, -3, -2, -1}
)

// model is the weight by the chapter's words, in fractions.
func model(shape, i, n int) int {
	switch shape {
	case Tent:
		lesser := i + 1
		if n-i < lesser {
			lesser = n - i
		}
		return min(cutOff(big.NewRat(int64(2*One*lesser), int64(n+1))), One)
	case Hill:
		d := 2*i + 1 - n
		return One - cutOff(big.NewRat(int64(One*d*d), int64((n+1)*(n+1))))
	}
	return One
}

// cutOff is a fraction's whole part, towards 0.
func cutOff(r *big.Rat) int {
	return int(new(big.Int).Quo(r.Num(), r.Denom()).Int64())
}

// modelApply is a weighted number, in numbers of any size.
func modelApply(x, weight int) int {
	product := new(big.Int).Mul(big.NewInt(int64(x)), big.NewInt(int64(weight)))
	// Div rounds down where the divisor is above 0.
	return int(product.Div(product, big.NewInt(One)).Int64())
}

// unruly makes numbers that look unruly, from least to most, always the same ones.
func unruly(many, least, most int) []int {
	x := make([]int, many)
	seed := uint64(many)*0x9e3779b97f4a7c15 + uint64(most)
	for i := range x {
		seed = seed*6364136223846793005 + 1442695040888963407
		x[i] = least + int(seed>>20)%(most-least+1)
	}
	return x
}

// weightsOf are all weights of a shape that is one.
func weightsOf(t *testing.T, shape, n int) []int {
	t.Helper()
	weights, e := Weights(shape, n)
	if e != api.OK || len(weights) != n {
		t.Fatalf("shape %d of %d: %d weights, %v", shape, n, len(weights), e)
	}
	return weights
}

// P8.1: the numbers that the chapter gives the shapes and the whole weight.
func TestConstants(t *testing.T) {
	if Flat != 0 || Tent != 1 || Hill != 2 || One != 32768 {
		t.Error(Flat, Tent, Hill, One)
	}
	if One != 1<<wholeBits {
		t.Error("a shift by wholeBits doesn't divide by One")
	}
}

// P8.1: the chapter's examples, and others that are reckoned by hand.
func TestExamples(t *testing.T) {
	for _, x := range []struct {
		shape int
		want  []int
	}{
		{Tent, []int{16384, 32768, 16384}},
		{Hill, []int{24576, 32768, 24576}},
		{Flat, []int{32768, 32768, 32768}},
		{Flat, nil},
		{Tent, nil},
		{Hill, nil},
		{Flat, []int{32768}},
		{Tent, []int{32768}},
		{Hill, []int{32768}},
		{Flat, []int{32768, 32768}},
		{Tent, []int{21845, 21845}},
		{Hill, []int{29128, 29128}},
		{Tent, []int{13107, 26214, 26214, 13107}},
		{Hill, []int{20972, 31458, 31458, 20972}},
		{Tent, []int{10922, 21845, 32768, 21845, 10922}},
		{Hill, []int{18205, 29128, 32768, 29128, 18205}},
		{Tent, []int{8192, 16384, 24576, 32768, 24576, 16384, 8192}},
		{Hill, []int{14336, 24576, 30720, 32768, 30720, 24576, 14336}},
	} {
		n := len(x.want)
		if got, e := Weights(x.shape, n); e != api.OK || !slices.Equal(got, x.want) {
			t.Errorf("shape %d of %d: %v, %v", x.shape, n, got, e)
		}
		for i, want := range x.want {
			if got, e := Weight(x.shape, i, n); e != api.OK || got != want {
				t.Errorf("shape %d at %d of %d: %d, %v", x.shape, i, n, got, e)
			}
		}
	}
}

// P8.1: each weight is as the chapter's words say, alone and among all places.
func TestWeights(t *testing.T) {
	for _, shape := range shapes {
		for n := range 200 {
			all := weightsOf(t, shape, n)
			for i, got := range all {
				alone, e := Weight(shape, i, n)
				if want := model(shape, i, n); got != want || alone != want || e != api.OK {
					t.Fatalf("shape %d at %d of %d: %d and %d, not %d, %v", shape, i, n, got, alone, want, e)
				}
			}
		}
	}
}

// P8.1: at places of blocks as they are, and at the ends and the middle of the greatest ones.
func TestWeightsOfMany(t *testing.T) {
	for _, shape := range shapes {
		for _, n := range []int{256, 576, 1152, 4095, 4096, 4097, 32767, 32768, 65533, api.MaxBlock - 1, api.MaxBlock} {
			all := weightsOf(t, shape, n)
			for _, i := range append(unruly(300, 0, n-1), 0, 1, 2, n/2-1, n/2, n/2+1, n-3, n-2, n-1) {
				alone, e := Weight(shape, i, n)
				if want := model(shape, i, n); all[i] != want || alone != want || e != api.OK {
					t.Fatalf("shape %d at %d of %d: %d and %d, not %d, %v", shape, i, n, all[i], alone, want, e)
				}
			}
		}
	}
}

// P8.1: the weights at the ends and in the middle of MaxBlock places, by hand.
func TestMaxBlock(t *testing.T) {
	for _, x := range []struct{ shape, i, want int }{
		{Flat, 0, One}, {Flat, api.MaxBlock - 1, One},
		{Tent, 0, 1}, {Tent, 1, 2}, {Tent, 32766, 32767}, {Tent, 32767, One}, {Tent, 32768, 32767}, {Tent, api.MaxBlock - 1, 1},
		{Hill, 0, 2}, {Hill, 1, 4}, {Hill, 32766, One}, {Hill, 32767, One}, {Hill, 32768, One}, {Hill, api.MaxBlock - 1, 2},
	} {
		if got, e := Weight(x.shape, x.i, api.MaxBlock); e != api.OK || got != x.want {
			t.Errorf("shape %d at %d: %d, %v", x.shape, x.i, got, e)
		}
	}
}

// P8.1: a shape that is none is told, and first, where n or i can't be either (R2); nothing stands beside it (R3).
func TestNoShape(t *testing.T) {
	for _, shape := range noShapes {
		for _, n := range slices.Concat([]int{0, 1, 2, 3, api.MaxBlock}, tooFew, tooMany) {
			if got, e := Weights(shape, n); e != api.ErrKind || len(got) != 0 {
				t.Errorf("shape %d of %d: %d weights, %v", shape, n, len(got), e)
			}
			for _, i := range []int{math.MinInt, -1, 0, 1, n - 1, n, math.MaxInt} {
				if got, e := Weight(shape, i, n); e != api.ErrKind || got != 0 {
					t.Errorf("shape %d at %d of %d: %d, %v", shape, i, n, got, e)
				}
			}
		}
	}
	if got := curveOf(3).weight(0, 1); got != 0 {
		t.Errorf("the weight of no shape: %d", got)
	}
}

// P8.1: so many places can't be; of none there are no weights, and that is no error, but there is no place to ask for.
func TestNotSoMany(t *testing.T) {
	for _, shape := range shapes {
		for _, n := range slices.Concat(tooFew, tooMany) {
			if got, e := Weights(shape, n); e != api.ErrArg || len(got) != 0 {
				t.Errorf("shape %d of %d: %d weights, %v", shape, n, len(got), e)
			}
		}
		if got, e := Weights(shape, 0); e != api.OK || len(got) != 0 {
			t.Errorf("shape %d of none: %v, %v", shape, got, e)
		}
		for _, n := range slices.Concat([]int{0}, tooFew, tooMany) {
			for _, i := range []int{math.MinInt, -1, 0, 1, n / 2, n - 1, n, math.MaxInt} {
				if got, e := Weight(shape, i, n); e != api.ErrArg || got != 0 {
					t.Errorf("shape %d at %d of %d: %d, %v", shape, i, n, got, e)
				}
			}
		}
	}
}

// P8.1: a place is from 0 to n - 1.
func TestNoPlace(t *testing.T) {
	for _, shape := range shapes {
		for _, n := range []int{1, 2, 3, 4, 4096, api.MaxBlock} {
			for _, i := range []int{math.MinInt, math.MinInt + 1, -1 << 32, -n, -2, -1, n, n + 1, 2 * n, 1 << 32, math.MaxInt - 1, math.MaxInt} {
				if got, e := Weight(shape, i, n); e != api.ErrArg || got != 0 {
					t.Errorf("shape %d at %d of %d: %d, %v", shape, i, n, got, e)
				}
			}
			for _, i := range []int{0, n - 1} {
				if got, e := Weight(shape, i, n); e != api.OK || got < 1 {
					t.Errorf("shape %d at %d of %d: %d, %v", shape, i, n, got, e)
				}
			}
		}
	}
}

// P8.3: a weight is from 1 to One, the same from either end, and not less towards the middle.
func TestLikeFromBothEnds(t *testing.T) {
	many := []int{4095, 4096, 32768, api.MaxBlock - 1, api.MaxBlock}
	for n := range 300 {
		many = append(many, n)
	}
	for _, shape := range shapes {
		for _, n := range many {
			all := weightsOf(t, shape, n)
			for i, w := range all {
				if w < 1 || w > One {
					t.Fatalf("shape %d at %d of %d: %d", shape, i, n, w)
				}
				if other := all[n-1-i]; w != other {
					t.Fatalf("shape %d at %d of %d: %d, and %d from the other end", shape, i, n, w, other)
				}
				if 0 < i && i < (n+1)/2 && w < all[i-1] {
					t.Fatalf("shape %d at %d of %d: %d is less than %d", shape, i, n, w, all[i-1])
				}
			}
		}
	}
}

// P8.2: numbers times weights, rounded down, below 0 too; by hand.
func TestApply(t *testing.T) {
	for _, x := range []struct{ number, weight, want int }{
		{0, 0, 0}, {0, One, 0}, {1, 0, 0}, {-1, 0, 0}, {1, One, 1}, {-1, One, -1},
		{3, 16384, 1}, {-3, 16384, -2}, {4, 16384, 2}, {-4, 16384, -2},
		{1, 1, 0}, {-1, 1, -1}, {1, One - 1, 0}, {-1, One - 1, -1},
		{32767, 1, 0}, {-32767, 1, -1}, {32768, 1, 1}, {-32768, 1, -1}, {32769, 1, 1}, {-32769, 1, -2},
		{100, 24576, 75}, {-100, 24576, -75}, {101, 24576, 75}, {-101, 24576, -76},
		{edge, 0, 0}, {-edge, 0, 0}, {edge, One, edge}, {-edge, One, -edge},
		{edge, 1, 1 << 25}, {-edge, 1, -1 << 25}, {edge - 1, 1, 1<<25 - 1}, {1 - edge, 1, -1 << 25},
		{edge, One - 1, edge - 1<<25}, {-edge, One - 1, 1<<25 - edge},
		{edge - 1, One, edge - 1}, {1 - edge, One, 1 - edge},
	} {
		if got, e := Apply([]int{x.number}, []int{x.weight}); e != api.OK || !slices.Equal(got, []int{x.want}) {
			t.Errorf("%d by %d: %v, %v", x.number, x.weight, got, e)
		}
	}
}

// P8.2: each number by the weight at its own place.
func TestApplyMany(t *testing.T) {
	for _, many := range []int{0, 1, 2, 3, 17, 4096, api.MaxBlock, api.MaxBlock + 1, 1 << 17} {
		for _, most := range []int{1, 1 << 15, 1 << 32, edge} {
			x, weights := unruly(many, -most, most), unruly(many, 0, One)
			got, e := Apply(x, weights)
			if e != api.OK || len(got) != many {
				t.Fatalf("%d numbers: %d, %v", many, len(got), e)
			}
			for i, n := range got {
				if want := modelApply(x[i], weights[i]); n != want {
					t.Fatalf("%d by %d at %d: %d, not %d", x[i], weights[i], i, n, want)
				}
			}
		}
	}
}

// P8.2: unlike lengths are told, whichever is longer; nothing stands beside it (R3).
func TestApplyUnlike(t *testing.T) {
	for _, lengths := range [][2]int{{0, 1}, {1, 0}, {1, 2}, {2, 1}, {3, 4}, {4, 3}, {0, 9}, {9, 0}, {1, 257}, {65536, 0}} {
		if got, e := Apply(make([]int, lengths[0]), make([]int, lengths[1])); e != api.ErrArg || len(got) != 0 {
			t.Errorf("%d numbers, %d weights: %v", lengths[0], lengths[1], e)
		}
	}
	if got, e := Apply([]int{1}, nil); e != api.ErrArg || len(got) != 0 {
		t.Errorf("no weights at all: %v, %v", got, e)
	}
	if got, e := Apply(nil, []int{1}); e != api.ErrArg || len(got) != 0 {
		t.Errorf("no numbers at all: %v, %v", got, e)
	}
}

// P8.2, R4: no numbers by no weights are no numbers; no list at all is an empty one.
func TestApplyNothing(t *testing.T) {
	for _, x := range [][]int{nil, {}} {
		for _, weights := range [][]int{nil, {}} {
			if got, e := Apply(x, weights); e != api.OK || len(got) != 0 {
				t.Errorf("%v, %v", got, e)
			}
		}
	}
}

// P8.1, P8.2: samples by a shape's weights: flat ones stay as they are.
func TestShapesApplied(t *testing.T) {
	x := []int{-9, 9, -9}
	for shape, want := range map[int][]int{Flat: {-9, 9, -9}, Tent: {-5, 9, -5}, Hill: {-7, 9, -7}} {
		if got, e := Apply(x, weightsOf(t, shape, 3)); e != api.OK || !slices.Equal(got, want) {
			t.Errorf("shape %d: %v, %v", shape, got, e)
		}
	}
}

// R5: what is handed in is not changed; answers are memory of their own.
func TestHandedIn(t *testing.T) {
	x, weights := unruly(20, -edge, edge), unruly(20, 0, One)
	keptX, keptWeights := slices.Clone(x), slices.Clone(weights)
	got, _ := Apply(x, weights)
	for i := range got {
		got[i] = 99
	}
	if !slices.Equal(x, keptX) || !slices.Equal(weights, keptWeights) {
		t.Error("what was handed in is another one")
	}
	for _, shape := range shapes {
		first := weightsOf(t, shape, 20)
		kept := slices.Clone(first)
		for i := range first {
			first[i] = 99
		}
		if again := weightsOf(t, shape, 20); !slices.Equal(again, kept) {
			t.Errorf("shape %d: %v", shape, again)
		}
	}
}

// R1: of other numbers and weights the call ends.
func TestFarNumbers(t *testing.T) {
	far := []int{math.MinInt, math.MaxInt, math.MinInt, math.MaxInt, -1, 0, 1, math.MinInt}
	if got, e := Apply(far, []int{math.MinInt, math.MaxInt, -1, -One, One, math.MaxInt, math.MinInt, math.MaxInt}); e != api.OK || len(got) != len(far) {
		t.Errorf("%v, %v", got, e)
	}
}

// P8.1, P8.3: any shape, place and number of places: an error, or the chapter's weight.
func FuzzWeight(f *testing.F) {
	f.Add(Tent, 0, 3)
	f.Add(Hill, 2, 3)
	f.Add(Flat, 0, 0)
	f.Add(3, -1, 0)
	f.Add(Tent, 65535, 65535)
	f.Add(Hill, 0, 65536)
	f.Fuzz(func(t *testing.T, shape, i, n int) {
		got, e := Weight(shape, i, n)
		want, wantE := 0, api.OK
		switch {
		case shape != 0 && shape != 1 && shape != 2:
			wantE = api.ErrKind
		case n < 1 || n > 65535 || i < 0 || i > n-1:
			wantE = api.ErrArg
		default:
			want = model(shape, i, n)
		}
		if got != want || e != wantE {
			t.Fatalf("shape %d at %d of %d: %d, %v, not %d, %v", shape, i, n, got, e, want, wantE)
		}
		if e == api.OK && (got < 1 || got > One) {
			t.Fatalf("shape %d at %d of %d: %d", shape, i, n, got)
		}
	})
}
