package lpc

import (
	"encoding/binary"
	"math"
	"math/big"
	"slices"
	"testing"

	"serinette/api"
	"serinette/fixed"
)

// edge is the greatest number of which all is promised; -edge is the least one.
const edge = 1 << 40

// wide is the chapter's 2^31, written out.
const wide = 2147483648

// example is the chapter's: the factor 4 and the shift 1.
var example = api.Lpc{Shift: 1, Precision: 4, Factors: []int{4}}

// none are numbers that are no precision and no shift.
var none = []int{math.MinInt, math.MinInt + 1, -1 << 32, 4 - 1<<32, -256, -64, -63, -16, -15, -2, -1, 16, 17, 31, 32, 33, 63, 64, 65, 256, 256 + 4, 1 << 32, 1<<32 + 4, math.MaxInt - 1, math.MaxInt}

// power is 2^n, in numbers of any size.
func power(n int) *big.Int {
	return new(big.Int).Exp(big.NewInt(2), big.NewInt(int64(n)), nil)
}

// modelIn tells whether a factor is in a depth, by chapter 6's words.
func modelIn(factor, depth int) bool {
	half, n := power(depth-1), big.NewInt(int64(factor))
	return n.Cmp(new(big.Int).Neg(half)) >= 0 && n.Cmp(half) < 0
}

// modelCheck is what Check must tell, by the chapter's words.
func modelCheck(l api.Lpc) api.Errno {
	order := len(l.Factors)
	if order == 0 || order > 32 || l.Precision < 1 || l.Precision > 15 || l.Shift < 0 || l.Shift > 15 {
		return api.ErrArg
	}
	if slices.ContainsFunc(l.Factors, func(factor int) bool { return !modelIn(factor, l.Precision) }) {
		return api.ErrArg
	}
	return api.OK
}

// modelForetold is what the next number behind x is foretold as, by the chapter's words.
func modelForetold(x []int, l api.Lpc) *big.Int {
	sum := new(big.Int)
	for i, factor := range l.Factors {
		product := big.NewInt(int64(factor))
		sum.Add(sum, product.Mul(product, big.NewInt(int64(x[len(x)-1-i]))))
	}
	// Div rounds down where the divisor is above 0.
	return sum.Div(sum, power(l.Shift))
}

// modelResidual is what Residual must answer, number by number.
func modelResidual(x []int, l api.Lpc) ([]int, api.Errno) {
	if e := modelCheck(l); e != api.OK {
		return nil, e
	}
	order := len(l.Factors)
	if len(x) < order {
		return nil, api.ErrShort
	}
	var left []int
	limit := big.NewInt(wide)
	for i := order; i < len(x); i++ {
		n := big.NewInt(int64(x[i]))
		if n.Sub(n, modelForetold(x[:i], l)); n.CmpAbs(limit) >= 0 {
			return nil, api.ErrWidth
		}
		left = append(left, int(n.Int64()))
	}
	return left, api.OK
}

// modelRestore is what Restore must answer, number by number, and whether that is promised.
func modelRestore(warm, rest []int, l api.Lpc) ([]int, api.Errno, bool) {
	if e := modelCheck(l); e != api.OK {
		return nil, e, true
	}
	if len(warm) != len(l.Factors) {
		return nil, api.ErrArg, true
	}
	x := slices.Clone(warm)
	for _, n := range rest {
		if tooFar(x...) || tooFar(n) {
			return nil, api.OK, false
		}
		x = append(x, n+int(modelForetold(x, l).Int64()))
	}
	return x, api.OK, true
}

// tooFar tells whether there is a number of which nothing is promised.
func tooFar(x ...int) bool {
	return slices.ContainsFunc(x, func(n int) bool { return n < -edge || n > edge })
}

// leave holds what is left of numbers against what must be, or the error that must be, with nothing beside it.
func leave(t *testing.T, x []int, l api.Lpc, e api.Errno, want ...int) {
	t.Helper()
	if left, got := Residual(x, l); got != e || len(left) != len(want) || !slices.Equal(left, want) {
		t.Errorf("%v by %v: %v, %v; not %v, %v", x, l, left, got, want, e)
	}
}

// back holds what is restored against what must be, or the error that must be, with nothing beside it.
func back(t *testing.T, warm, rest []int, l api.Lpc, e api.Errno, want ...int) {
	t.Helper()
	if x, got := Restore(warm, rest, l); got != e || len(x) != len(want) || !slices.Equal(x, want) {
		t.Errorf("%v and %v by %v: %v, %v; not %v, %v", warm, rest, l, x, got, want, e)
	}
}

// told holds what Check tells of a predictor; one that can't be is refused by the other two as well.
func told(t *testing.T, l api.Lpc, want api.Errno) {
	t.Helper()
	if e := Check(l); e != want {
		t.Errorf("%v: %v, not %v", l, e, want)
	}
	if want == api.OK {
		return
	}
	for _, many := range []int{0, 1, len(l.Factors), 40} {
		leave(t, make([]int, many), l, want)
		back(t, make([]int, many), []int{1, 2, 3}, l, want)
	}
}

// filled is many times the same number.
func filled(many, n int) []int {
	return slices.Repeat([]int{n}, many)
}

// unruly makes numbers that look unruly, from -most to most, always the same ones.
func unruly(many, most int) []int {
	x := make([]int, many)
	state := uint64(many)<<43 ^ uint64(most)
	for i := range x {
		state = state*0x5851f42d4c957f2d + 0x14057b7ef767814f
		x[i] = int(state>>20)%(2*most+1) - most
	}
	return x
}

// turns are numbers that are n and -n by turns.
func turns(many, n int) []int {
	x := filled(many, n)
	for i := 1; i < many; i += 2 {
		x[i] = -n
	}
	return x
}

// predictors are some of an order, with all shifts: unruly ones, those at both ends of their bits, and such that foretell numbers that are all alike as just that.
func predictors(order int) []api.Lpc {
	var all []api.Lpc
	for shift := range 16 {
		precision := 15 - shift*order%15
		high, low := 1<<(precision-1)-1, -1<<(precision-1)
		tame := make([]int, order)
		// Together they are 2^shift: each takes what can be of what those ahead of it left.
		sum := 1 << shift
		for i := range tame {
			tame[i] = min(sum, 1<<14-1)
			sum -= tame[i]
		}
		all = append(all,
			api.Lpc{Shift: shift, Precision: 15, Factors: tame},
			api.Lpc{Shift: shift, Precision: precision, Factors: filled(order, high)},
			api.Lpc{Shift: shift, Precision: precision, Factors: filled(order, low)},
			api.Lpc{Shift: shift, Precision: 15, Factors: unruly(order, 1<<14-1)},
			api.Lpc{Shift: shift, Precision: 1 + precision%15, Factors: make([]int, order)},
		)
	}
	return all
}

// P12.2, P12.3: the chapter's example, and back.
func TestExample(t *testing.T) {
	leave(t, []int{1, 2, 4, 8, 16}, example, api.OK, 0, 0, 0, 0)
	back(t, []int{1}, []int{0, 0, 0, 0}, example, api.OK, 1, 2, 4, 8, 16)
}

// P12.2, P12.3: answers that are reckoned by hand, and back.
func TestByHand(t *testing.T) {
	for _, c := range []struct {
		l       api.Lpc
		x, left []int
	}{
		// Twice the one just ahead, less the one ahead of that: what rises evenly leaves nothing.
		{api.Lpc{Shift: 0, Precision: 3, Factors: []int{2, -1}}, []int{5, 8, 11, 14, 18, 20}, []int{0, 0, 1, -2}},
		// Sums of 5, 10, -25, 31 and -10 are 2, 5, -13, 15 and -5.
		{api.Lpc{Shift: 1, Precision: 4, Factors: []int{3, -1}}, []int{1, 2, 4, -7, 8, 1}, []int{2, -12, 21, -14}},
		{api.Lpc{Shift: 2, Precision: 3, Factors: []int{1, 1, 1, 1}}, []int{1, 2, 3, 4, 5, -6}, []int{3, -9}},
		{api.Lpc{Shift: 15, Precision: 15, Factors: []int{16383}}, []int{2, 2, -2, 0}, []int{2, -2, 1}},
		{api.Lpc{Shift: 0, Precision: 1, Factors: []int{-1}}, []int{7, 7, -7, 0}, []int{14, 0, -7}},
		{api.Lpc{Shift: 3, Precision: 1, Factors: []int{0, 0}}, []int{7, 8, 9, -10}, []int{9, -10}},
	} {
		order := len(c.l.Factors)
		leave(t, c.x, c.l, api.OK, c.left...)
		back(t, c.x[:order], c.left, c.l, api.OK, c.x...)
	}
}

// P12.1: a predictor has from 1 to MaxOrder factors; no list at all is an empty one (R4).
func TestOrders(t *testing.T) {
	for precision := 1; precision <= 15; precision++ {
		told(t, api.Lpc{Precision: precision}, api.ErrArg)
		told(t, api.Lpc{Precision: precision, Factors: []int{}}, api.ErrArg)
		for order := 1; order <= 32; order++ {
			told(t, api.Lpc{Precision: precision, Shift: precision, Factors: make([]int, order)}, api.OK)
		}
		for _, order := range []int{33, 34, 63, 64, 65, 256, 257, 288, 65536, 65537} {
			told(t, api.Lpc{Precision: precision, Shift: precision, Factors: make([]int, order)}, api.ErrArg)
		}
	}
}

// P12.1: a precision is from 1 to 15.
func TestPrecisions(t *testing.T) {
	for precision := 1; precision <= 15; precision++ {
		told(t, api.Lpc{Precision: precision, Factors: []int{0, -1}}, api.OK)
	}
	for _, precision := range append([]int{0}, none...) {
		told(t, api.Lpc{Precision: precision, Factors: []int{0}}, api.ErrArg)
		told(t, api.Lpc{Precision: precision, Shift: 15, Factors: []int{0, -1}}, api.ErrArg)
	}
}

// P12.1: a shift is from 0 to 15.
func TestShifts(t *testing.T) {
	for precision := 1; precision <= 15; precision++ {
		for shift := 0; shift <= 15; shift++ {
			told(t, api.Lpc{Shift: shift, Precision: precision, Factors: []int{0, -1}}, api.OK)
		}
		for _, shift := range none {
			told(t, api.Lpc{Shift: shift, Precision: precision, Factors: []int{0, -1}}, api.ErrArg)
		}
	}
}

// P12.1: a factor is in the depth Precision, wherever it stands: up to both ends, and none beyond.
func TestFactors(t *testing.T) {
	for precision := 1; precision <= 15; precision++ {
		high, low := 1<<(precision-1)-1, -1<<(precision-1)
		for _, order := range []int{1, 2, 3, 31, 32} {
			for place := range order {
				for _, c := range []struct {
					factor int
					want   api.Errno
				}{
					{0, api.OK}, {-1, api.OK}, {high, api.OK}, {low, api.OK},
					{high + 1, api.ErrArg}, {low - 1, api.ErrArg}, {high + 2, api.ErrArg}, {low - 2, api.ErrArg},
					{-low + 256, api.ErrArg}, {1 << 16, api.ErrArg}, {-1 << 16, api.ErrArg}, {1 << 32, api.ErrArg},
					{-1 << 32, api.ErrArg}, {math.MaxInt, api.ErrArg}, {math.MinInt, api.ErrArg},
				} {
					factors := make([]int, order)
					factors[place] = c.factor
					told(t, api.Lpc{Precision: precision, Factors: factors}, c.want)
				}
			}
		}
	}
	// Written out, of the least precision, an ordinary one and the greatest.
	for _, c := range []struct{ precision, low, high int }{{1, -1, 0}, {2, -2, 1}, {12, -2048, 2047}, {15, -16384, 16383}} {
		told(t, api.Lpc{Precision: c.precision, Factors: []int{c.low, c.high}}, api.OK)
		told(t, api.Lpc{Precision: c.precision, Factors: []int{c.low, c.high + 1}}, api.ErrArg)
		told(t, api.Lpc{Precision: c.precision, Factors: []int{c.low - 1, c.high}}, api.ErrArg)
	}
}

// P12.1: whatever orders, precisions, shifts and factors come together.
func TestCheck(t *testing.T) {
	many := map[api.Errno]int{}
	for _, order := range []int{0, 1, 2, 32, 33} {
		for precision := -1; precision <= 17; precision++ {
			for shift := -2; shift <= 17; shift++ {
				for _, factor := range []int{0, 1, -1, 7, -8, 8, -9, 2047, -2048, 2048, 16383, -16384, 16384, -16385} {
					l := api.Lpc{Shift: shift, Precision: precision, Factors: filled(order, factor)}
					want := modelCheck(l)
					many[want]++
					if e := Check(l); e != want {
						t.Errorf("%v: %v, not %v", l, e, want)
					}
				}
			}
		}
	}
	if many[api.OK] < 1000 || many[api.ErrArg] < 1000 {
		t.Errorf("too few of a kind: %v", many)
	}
}

// P12.2, P12.3, R2: where more than one thing is wrong it is Check's error that is told, ahead of what numbers are.
func TestWhichError(t *testing.T) {
	far := []int{-edge, edge, -edge, edge, -edge}
	for _, l := range []api.Lpc{
		{Precision: 4},
		{Precision: 0, Factors: []int{0, 0}},
		{Precision: 16, Factors: []int{1, 1}},
		{Precision: 4, Shift: -1, Factors: []int{1, 1}},
		{Precision: 4, Shift: 16, Factors: []int{1, 1}},
		{Precision: 4, Factors: []int{1, 8}},
		{Precision: 4, Factors: []int{-9, 1}},
		{Precision: 4, Factors: make([]int, 33)},
	} {
		leave(t, nil, l, api.ErrArg)
		leave(t, far[:1], l, api.ErrArg)
		leave(t, far, l, api.ErrArg)
		leave(t, slices.Repeat(far, 20), l, api.ErrArg)
		back(t, nil, nil, l, api.ErrArg)
		back(t, far[:1], far, l, api.ErrArg)
		back(t, far[:len(l.Factors)%3], far, l, api.ErrArg)
	}
	// Too few numbers are told as such, however far they are.
	leave(t, far[:2], api.Lpc{Precision: 4, Factors: []int{1, 1, 1}}, api.ErrShort)
	leave(t, far[:3], api.Lpc{Precision: 4, Factors: []int{1, 1, 1}}, api.OK)
	leave(t, far[:4], api.Lpc{Precision: 4, Factors: []int{1, 1, 1}}, api.ErrWidth)
}

// P12.2: fewer numbers than the order are too few; just as many leave nothing, and that is no error; one more leaves one.
func TestShort(t *testing.T) {
	for order := 1; order <= 32; order++ {
		x := unruly(33, 1<<15)
		for _, l := range predictors(order) {
			for many := range order {
				leave(t, x[:many], l, api.ErrShort)
			}
			leave(t, nil, l, api.ErrShort)
			leave(t, x[:order], l, api.OK)
			if left, e := Residual(x[:order+1], l); e != api.OK || len(left) != 1 {
				t.Errorf("one more than %v needs: %v, %v", l, left, e)
			}
			leave(t, turns(order, edge), l, api.OK)
		}
	}
}

// P12.2, P12.3: sums are rounded down, not towards 0, nor to the nearest number.
func TestRoundedDown(t *testing.T) {
	for _, c := range []struct{ ahead, factor, shift, foretold int }{
		{1, 1, 1, 0}, {-1, 1, 1, -1}, {2, 1, 1, 1}, {-2, 1, 1, -1}, {3, 1, 1, 1}, {-3, 1, 1, -2},
		{1, -1, 1, -1}, {-1, -1, 1, 0}, {3, -1, 1, -2}, {-3, -1, 1, 1},
		{1, 1, 15, 0}, {-1, 1, 15, -1}, {1, -1, 15, -1}, {-1, -1, 15, 0},
		{32767, 1, 15, 0}, {32768, 1, 15, 1}, {-32768, 1, 15, -1}, {-32769, 1, 15, -2},
		{7, 5, 3, 4}, {-7, 5, 3, -5}, {8, 5, 3, 5}, {-8, 5, 3, -5}, {7, -5, 3, -5},
		{-1, 1, 0, -1}, {-7, 5, 0, -35}, {7, -5, 0, -35},
		{edge, 1, 15, 1 << 25}, {edge - 1, 1, 15, 1<<25 - 1}, {-edge, 1, 15, -1 << 25}, {1 - edge, 1, 15, -1 << 25},
	} {
		l := api.Lpc{Shift: c.shift, Precision: 4, Factors: []int{c.factor}}
		leave(t, []int{c.ahead, 0}, l, api.OK, -c.foretold)
		leave(t, []int{c.ahead, c.foretold}, l, api.OK, 0)
		back(t, []int{c.ahead}, []int{0}, l, api.OK, c.ahead, c.foretold)
	}
	// It is the sum that is divided, not each product: the halves of -1 and of -1 are -1 together, those of 1 and of -1 nothing.
	two := api.Lpc{Shift: 1, Precision: 4, Factors: []int{1, 1}}
	leave(t, []int{-1, -1, 0}, two, api.OK, 1)
	leave(t, []int{1, 1, 0}, two, api.OK, -1)
	leave(t, []int{1, -1, 0}, two, api.OK, 0)
	leave(t, []int{-1, 0, 0}, two, api.OK, 1)
	// All numbers near 0, by all shifts.
	for shift := range 16 {
		for ahead := -70; ahead <= 70; ahead++ {
			for _, factor := range []int{1, -1, 3, -5, 16383, -16384} {
				l := api.Lpc{Shift: shift, Precision: 15, Factors: []int{factor}}
				want := int(modelForetold([]int{ahead}, l).Int64())
				leave(t, []int{ahead, 9}, l, api.OK, 9-want)
				back(t, []int{ahead}, []int{9}, l, api.OK, ahead, 9+want)
			}
		}
	}
}

// P12.2, P12.3: the first factor is that of the number just ahead, the last one that of the one furthest ahead.
func TestFirstFactor(t *testing.T) {
	leave(t, []int{100, 10, 1}, api.Lpc{Precision: 4, Factors: []int{3, 2}}, api.OK, 1-3*10-2*100)
	back(t, []int{100, 10}, []int{1}, api.Lpc{Precision: 4, Factors: []int{3, 2}}, api.OK, 100, 10, 231)
	for order := 1; order <= 32; order++ {
		x := unruly(order+5, 1<<20)
		for place := range order {
			l := api.Lpc{Precision: 2, Factors: make([]int, order)}
			l.Factors[place] = 1
			left := make([]int, 5)
			for i := range left {
				left[i] = x[order+i] - x[order+i-1-place]
			}
			leave(t, x, l, api.OK, left...)
			back(t, x[:order], left, l, api.OK, x...)
		}
	}
}

// P12.2: what is left is between -2^31 and 2^31, both left out.
func TestWidth(t *testing.T) {
	same := api.Lpc{Precision: 2, Factors: []int{1}}
	nought := api.Lpc{Precision: 1, Factors: []int{0}}
	for _, ahead := range []int{0, 1, -1, wide, -wide, edge - wide - 1, wide + 1 - edge} {
		for _, n := range []int{wide - 1, 1 - wide, wide - 2, 2 - wide} {
			leave(t, []int{ahead, ahead + n}, same, api.OK, n)
			leave(t, []int{ahead, n}, nought, api.OK, n)
		}
		for _, n := range []int{wide, -wide, wide + 1, -wide - 1} {
			leave(t, []int{ahead, ahead + n}, same, api.ErrWidth)
			leave(t, []int{ahead, n}, nought, api.ErrWidth)
		}
	}
	// What has nothing in its lowest 32 bits, or little, is too wide too.
	for _, n := range []int{1 << 32, -1 << 32, 1<<32 + 1, 1<<32 - 1, -1<<32 + 1, -1<<32 - 1, 3 << 32, 1 << 33, 1 << 39, -1 << 39, edge, -edge} {
		leave(t, []int{0, n}, same, api.ErrWidth)
		leave(t, []int{n, 0}, same, api.ErrWidth)
		leave(t, []int{3, n}, nought, api.ErrWidth)
	}
	leave(t, []int{edge, -edge}, same, api.ErrWidth)
	leave(t, []int{-edge, edge}, same, api.ErrWidth)
	leave(t, []int{edge, edge, edge}, same, api.OK, 0, 0)
	leave(t, []int{-edge, -edge, -edge}, same, api.OK, 0, 0)
}

// P12.2: from numbers at and near both edges, by what foretells such that are all alike as just that.
func TestWidthFar(t *testing.T) {
	for order := 1; order <= 32; order++ {
		for _, l := range predictors(order) {
			for _, far := range []int{edge, -edge, edge - 1, 1 - edge, edge - wide, wide - edge} {
				ahead := filled(order, far)
				next := modelForetold(ahead, l)
				if next.CmpAbs(big.NewInt(edge)) > 0 {
					// Nothing that can be is near what is foretold so far.
					leave(t, append(ahead, max(-edge, min(edge, far))), l, errorOf(t, append(slices.Clone(ahead), far), l))
					continue
				}
				for _, n := range []int{wide - 1, wide, wide + 1, 1 - wide, -wide, -wide - 1, 0} {
					last := int(next.Int64()) + n
					if tooFar(last) {
						continue
					}
					x := append(slices.Clone(ahead), last)
					if n > -wide && n < wide {
						leave(t, x, l, api.OK, n)
					} else {
						leave(t, x, l, api.ErrWidth)
					}
				}
			}
		}
	}
}

// errorOf is the model's error, where there is one that must be.
func errorOf(t *testing.T, x []int, l api.Lpc) api.Errno {
	t.Helper()
	_, e := modelResidual(x, l)
	if e != api.ErrWidth {
		t.Fatalf("%v by %v: the model tells %v", x, l, e)
	}
	return e
}

// P12.2: the furthest sums there are, on both sides, have room: what is left of them is too wide, and is no other thing.
func TestFurthestSums(t *testing.T) {
	for order := 1; order <= 32; order++ {
		for shift := range 16 {
			for _, factor := range []int{16383, -16384} {
				l := api.Lpc{Shift: shift, Precision: 15, Factors: filled(order, factor)}
				for _, far := range []int{edge, -edge} {
					for _, next := range []int{edge, -edge, 0} {
						x := append(filled(order, far), next)
						want, e := modelResidual(x, l)
						leave(t, x, l, e, want...)
					}
				}
			}
		}
	}
}

// P12.2, R3: one number that is too wide is enough, wherever it is; nothing stands beside the error.
func TestWidthAnywhere(t *testing.T) {
	l := api.Lpc{Precision: 2, Factors: []int{0, 0, 1}}
	for _, many := range []int{4, 5, 10, 300} {
		for place := 3; place < many; place++ {
			x := make([]int, many)
			x[place] = wide
			leave(t, x, l, api.ErrWidth)
			x[place] = -wide
			leave(t, x, l, api.ErrWidth)
			x[place] = wide - 1
			if left, e := Residual(x, l); e != api.OK || len(left) != many-3 || left[place-3] != wide-1 {
				t.Errorf("at %d of %d: %v, %v", place, many, left, e)
			}
		}
	}
	// Of the first ones nothing is left, however far they are.
	leave(t, []int{edge, -edge, edge, edge, -edge, edge}, l, api.OK, 0, 0, 0)
}

// P12.3: warm has just as many numbers as the order, whatever rest is.
func TestRestoreArg(t *testing.T) {
	for order := 1; order <= 32; order++ {
		for _, l := range predictors(order)[:10] {
			for _, many := range []int{0, 1, order - 1, order + 1, 2 * order, 31, 32, 33, order + 256, order + 65536} {
				if many == order {
					continue
				}
				for _, rest := range [][]int{nil, {}, {1}, unruly(order, 9), unruly(40, 9)} {
					back(t, make([]int, many), rest, l, api.ErrArg)
				}
			}
			back(t, nil, make([]int, order), l, api.ErrArg)
			back(t, make([]int, order), make([]int, 3), l, api.OK, make([]int, order+3)...)
		}
	}
}

// P12.3, R4: behind warm stands nothing where rest has no numbers.
func TestRestoreNothing(t *testing.T) {
	for order := 1; order <= 32; order++ {
		for _, l := range predictors(order) {
			for _, warm := range [][]int{make([]int, order), unruly(order, 1<<15), turns(order, edge), turns(order, -edge)} {
				back(t, warm, nil, l, api.OK, warm...)
				back(t, warm, []int{}, l, api.OK, warm...)
			}
		}
	}
}

// P12.3: warm, and behind it each of rest and what is foretold, by predictors of all orders.
func TestRestore(t *testing.T) {
	promised := 0
	for order := 1; order <= 32; order++ {
		for _, l := range predictors(order) {
			for _, most := range []int{0, 1, 9, 1 << 15, 1 << 32, edge} {
				for _, many := range []int{1, 2, 7, 40} {
					warm, rest := unruly(order, most), unruly(many, max(most, 1))
					if want, e, ok := modelRestore(warm, rest, l); ok {
						promised++
						back(t, warm, rest, l, e, want...)
					}
				}
			}
		}
	}
	if promised < 5000 {
		t.Errorf("only %d are promised", promised)
	}
}

// P12.3: numbers of rest aren't held against what may be left: up to both edges each is one.
func TestRestoreWide(t *testing.T) {
	half := api.Lpc{Shift: 1, Precision: 2, Factors: []int{1}}
	for _, n := range []int{wide - 1, wide, wide + 1, 1 << 32, edge - 1, edge} {
		back(t, []int{0}, []int{n, 0, 0}, half, api.OK, 0, n, n>>1, n>>2)
		back(t, []int{0}, []int{-n, 0, 0}, half, api.OK, 0, -n, -n>>1, -n>>2)
		back(t, []int{edge}, []int{-n}, half, api.OK, edge, edge/2-n)
		back(t, []int{-edge}, []int{n}, half, api.OK, -edge, n-edge/2)
		back(t, []int{edge}, []int{n}, half, api.OK, edge, edge/2+n)
	}
	same := api.Lpc{Precision: 2, Factors: []int{1}}
	back(t, []int{edge}, []int{-edge, -edge, edge, edge}, same, api.OK, edge, 0, -edge, 0, edge)
	back(t, []int{-edge}, []int{edge, edge, -edge, -edge}, same, api.OK, -edge, 0, edge, 0, -edge)
}

// P12.3: the last number may be beyond both edges, as nothing is foretold by it.
func TestRestoreLast(t *testing.T) {
	same := api.Lpc{Precision: 2, Factors: []int{1}}
	back(t, []int{edge}, []int{edge}, same, api.OK, edge, 2*edge)
	back(t, []int{-edge}, []int{-edge}, same, api.OK, -edge, -2*edge)
	back(t, []int{0}, []int{edge, 1}, same, api.OK, 0, edge, edge+1)
	for order := 1; order <= 32; order++ {
		for shift := range 16 {
			for _, factor := range []int{16383, -16384} {
				l := api.Lpc{Shift: shift, Precision: 15, Factors: filled(order, factor)}
				for _, far := range []int{edge, -edge, edge - 1, 1 - edge} {
					warm := filled(order, far)
					for _, n := range []int{0, 1, -1, edge, -edge} {
						back(t, warm, []int{n}, l, api.OK, append(slices.Clone(warm), order*factor*far>>shift+n)...)
					}
				}
			}
		}
	}
}

// P12.2 to P12.4: what is left is what must be, and restores the numbers, by all orders and many numbers.
func TestThereAndBack(t *testing.T) {
	lefts, wides := 0, 0
	for order := 1; order <= 32; order++ {
		for _, l := range predictors(order) {
			for _, most := range []int{1, 9, 1 << 7, 1 << 15, 1 << 23, 1 << 31, 1 << 36, edge} {
				for _, x := range [][]int{unruly(order+1, most), unruly(order+9, most), filled(order+9, -most), turns(order+9, most)} {
					want, e := modelResidual(x, l)
					leave(t, x, l, e, want...)
					if e != api.OK {
						wides++
						continue
					}
					lefts++
					back(t, x[:order], want, l, api.OK, x...)
				}
			}
		}
	}
	if lefts < 20000 || wides < 20000 {
		t.Errorf("only %d leave something, %d are too wide", lefts, wides)
	}
}

// P12.4: as many numbers as a block has at most, by predictors of all orders.
func TestBlock(t *testing.T) {
	x := unruly(api.MaxBlock, 1<<15)
	for order := 1; order <= 32; order++ {
		l := api.Lpc{Shift: order % 16, Precision: 12, Factors: unruly(order, 2047)}
		left, e := Residual(x, l)
		if e != api.OK || len(left) != len(x)-order {
			t.Fatalf("%v: %d are left, %v", l, len(left), e)
		}
		again, e := Restore(x[:order], left, l)
		if e != api.OK || !slices.Equal(again, x) {
			t.Errorf("%v doesn't restore the block: %v", l, e)
		}
	}
}

// P12.2, P12.3: with a fixed predictor's factors the same is left, and restored.
func TestFixedFactors(t *testing.T) {
	for order := 1; order <= api.MaxFixed; order++ {
		for shift := range 3 {
			factors := fixed.Factors(order)
			for i := range factors {
				factors[i] <<= shift
			}
			l := api.Lpc{Shift: shift, Precision: 6, Factors: factors}
			x := unruly(500, 1<<24)
			want, _ := fixed.Residual(x, order)
			leave(t, x, l, api.OK, want...)
			back(t, x[:order], want, l, api.OK, x...)
		}
	}
}

// R6: what a predictor answers doesn't hang on those ahead of it.
func TestAgain(t *testing.T) {
	x := []int{1, 2, 4, 8, 16}
	two := api.Lpc{Shift: 2, Precision: 5, Factors: []int{-9, 5}}
	for range 3 {
		leave(t, x, example, api.OK, 0, 0, 0, 0)
		leave(t, x, two, api.OK, 8, 15, 29)
		back(t, x[:1], []int{0, 0, 0, 0}, example, api.OK, x...)
		back(t, x[:2], []int{8, 15, 29}, two, api.OK, x...)
		leave(t, x[:1], two, api.ErrShort)
	}
}

// R5: what is handed in is kept as it was, not even what has room behind it is written to; answers are memory of their own.
func TestHandedIn(t *testing.T) {
	for order := 1; order <= 32; order++ {
		factors, x := unruly(order+4, 2047), unruly(60, 1<<15)
		keptFactors, keptX := slices.Clone(factors), slices.Clone(x)
		l := api.Lpc{Shift: 11, Precision: 12, Factors: factors[:order]}
		left, e := Residual(x[:40], l)
		if e != api.OK {
			t.Fatal(order, e)
		}
		rest := append(slices.Clone(left), 5, 6, 7)
		keptRest := slices.Clone(rest)
		again, e := Restore(x[:order], rest[:len(left)], l)
		if e != api.OK || Check(l) != api.OK {
			t.Fatal(order, e)
		}
		nothing, _ := Restore(x[:order], nil, l)
		for _, answer := range [][]int{left, again, nothing} {
			for i := range answer {
				answer[i] = 99
			}
			if spare := answer[:cap(answer)]; len(spare) > 0 {
				spare[len(spare)-1] = 99
			}
		}
		if !slices.Equal(x, keptX) || !slices.Equal(factors, keptFactors) || !slices.Equal(rest, keptRest) {
			t.Errorf("the order %d: what was handed in is another one", order)
		}
		if l.Shift != 11 || l.Precision != 12 || len(l.Factors) != order {
			t.Errorf("the order %d: the predictor is another one: %v", order, l)
		}
	}
}

// R1: of numbers of which nothing else is promised calls end.
func TestOthers(t *testing.T) {
	far := []int{math.MinInt, math.MaxInt, math.MinInt, math.MinInt, math.MaxInt, edge + 1, -edge - 1, 1 << 62, -1 << 62, 0}
	for order := 1; order <= 32; order++ {
		for _, l := range predictors(order) {
			x := slices.Repeat(far, 4)
			if left, e := Residual(x, l); e != api.OK && (e != api.ErrWidth || len(left) != 0) || e == api.OK && len(left) != len(x)-order {
				t.Errorf("%v: %v, %v", l, left, e)
			}
			if again, e := Restore(x[:order], far, l); e != api.OK || len(again) != order+len(far) {
				t.Errorf("%v back: %v, %v", l, again, e)
			}
		}
	}
}

// P12.1 to P12.4: any numbers by any predictor.
func FuzzLpc(f *testing.F) {
	f.Add([]byte{1, 0, 2, 0, 4, 0, 8, 0, 16, 0}, []byte{4, 0}, 1, 4, 0)
	f.Add([]byte{1, 0, 2, 0, 3, 0}, []byte{2, 0, 255, 255}, 0, 3, 25)
	f.Add([]byte{1, 0}, []byte{}, 0, 15, 3)
	f.Add([]byte{1, 0}, []byte{3, 0, 3, 0}, 16, 16, 9)
	f.Add([]byte{0, 128, 255, 127, 1, 0}, []byte{0, 192, 255, 63}, 15, 15, 25)
	f.Fuzz(func(t *testing.T, b, c []byte, shift, precision, up int) {
		// Two bytes are a number; up makes all further from 0.
		by := 1 << (uint(up) % 26)
		var x []int
		for ; len(b) >= 2 && len(x) < 200; b = b[2:] {
			x = append(x, int(int16(binary.LittleEndian.Uint16(b)))*by)
		}
		l := api.Lpc{Shift: shift, Precision: precision}
		for ; len(c) >= 2 && len(l.Factors) < 40; c = c[2:] {
			l.Factors = append(l.Factors, int(int16(binary.LittleEndian.Uint16(c))))
		}
		if e := Check(l); e != modelCheck(l) {
			t.Fatalf("%v: %v", l, e)
		}
		want, e := modelResidual(x, l)
		leave(t, x, l, e, want...)
		order := min(len(l.Factors), len(x))
		if e == api.OK {
			back(t, x[:order], want, l, api.OK, x...)
		}
		if again, e, ok := modelRestore(x[:order], x[order:], l); ok {
			back(t, x[:order], x[order:], l, e, again...)
		}
	})
}
