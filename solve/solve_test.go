package solve

import (
	"encoding/binary"
	"math"
	"math/big"
	"slices"
	"testing"

	"serinette/api"
)

// most is the greatest first number of which all is promised.
const most = 1 << 62

// anyFar is so far that no factor of a model is further.
const anyFar = math.MaxInt

// unit is the chapter's Unit, written out.
var unit = big.NewInt(1048576)

// model has what the chapter's steps have come to, in numbers of any size.
type model struct {
	e       *big.Int
	factors []*big.Int
}

// over is a product divided by Unit and rounded down.
func over(a, b *big.Int) *big.Int {
	product := new(big.Int).Mul(a, b)
	// Div rounds down where the divisor is above 0.
	return product.Div(product, unit)
}

// foretold is the sum of each factor, of the number j, times the number m - j; m is how many there are.
func (s *model) foretold(r []*big.Int) *big.Int {
	sum, m := new(big.Int), len(r)
	for j := 1; j <= m-1; j++ {
		sum.Add(sum, new(big.Int).Mul(s.factors[j-1], r[m-j]))
	}
	return sum
}

// step takes steps 1 to 3, and tells whether q is between -Unit and Unit: if not, nothing is changed.
func (s *model) step(r []*big.Int, rm *big.Int) bool {
	sum := new(big.Int).Mul(rm, unit)
	sum.Sub(sum, s.foretold(r))
	q := sum.Quo(sum, s.e)
	if q.CmpAbs(unit) >= 0 {
		return false
	}
	m := len(r)
	next := make([]*big.Int, m)
	for j := 1; j <= m-1; j++ {
		next[j-1] = new(big.Int).Sub(s.factors[j-1], over(q, s.factors[m-j-1]))
	}
	next[m-1] = q
	s.factors = next
	return true
}

// lessen takes step 5, and tells whether e isn't below 1.
func (s *model) lessen() bool {
	q := s.factors[len(s.factors)-1]
	s.e = new(big.Int).Sub(s.e, over(over(s.e, q), q))
	return s.e.Sign() > 0
}

// within tells whether no factor is further than far from 0.
func (s *model) within(far int) bool {
	return !slices.ContainsFunc(s.factors, func(f *big.Int) bool { return f.CmpAbs(big.NewInt(int64(far))) > 0 })
}

// ints are the factors.
func (s *model) ints() []int {
	all := make([]int, len(s.factors))
	for i, f := range s.factors {
		all[i] = int(f.Int64())
	}
	return all
}

// divided are all numbers, divided by 2^t and rounded down: one t after the other is tried.
func divided(r []int) []*big.Int {
	for two := big.NewInt(1); ; two = new(big.Int).Add(two, two) {
		all := make([]*big.Int, len(r))
		for i, number := range r {
			all[i] = new(big.Int).Div(big.NewInt(int64(number)), two)
		}
		if all[0].Cmp(big.NewInt(1073741824)) < 0 {
			return all
		}
	}
}

// modelSolve is what is told, by the chapter's words; far is what they have as Far.
func modelSolve(t *testing.T, r []int, order, far int) [][]int {
	if len(r) == 0 || r[0] == 0 {
		return nil
	}
	small := divided(r)
	s := &model{e: small[0]}
	var told [][]int
	for m := 1; m <= order && m <= 32 && m < len(small); m++ {
		if !s.step(small[:m], small[m]) || !s.within(far) {
			break
		}
		told = append(told, s.ints())
		if !s.lessen() {
			// It follows from q's limits that this can't be; if it could, the tests needed an input for it.
			t.Errorf("%v: e is %v", r, s.e)
			break
		}
	}
	return told
}

// steered makes numbers by which each q is about one that is asked for; it ends behind the first by which there is none.
func steered(first int, qs []int) []int {
	r, big1 := []int{first}, []*big.Int{big.NewInt(int64(first))}
	s := &model{e: big1[0]}
	for _, q := range qs {
		sum := new(big.Int).Mul(big.NewInt(int64(q)), s.e)
		sum.Add(sum, s.foretold(big1))
		next := min(max(int(sum.Quo(sum, unit).Int64()), -first), first)
		r = append(r, next)
		if !s.step(big1, big.NewInt(int64(next))) || !s.lessen() {
			break
		}
		big1 = append(big1, big.NewInt(int64(next)))
	}
	return r
}

// raised are numbers times 2^by, with unruly bits below; none is further from 0 than the first one.
func raised(r []int, by int) []int {
	below := unruly(len(r), 1<<by-1)
	first := r[0]<<by + max(below[0], -below[0])
	all := []int{first}
	for i := 1; i < len(r); i++ {
		all = append(all, min(max(r[i]<<by+below[i], -first), first))
	}
	return all
}

// unruly makes numbers that look unruly, from -far to far, always the same ones.
func unruly(many, far int) []int {
	x := make([]int, many)
	seed := uint64(many)*0x9e3779b97f4a7c15 + uint64(far)
	for i := range x {
		seed = seed*6364136223846793005 + 1442695040888963407
		x[i] = int(seed%(2*uint64(far)+1)) - far
	}
	return x
}

// likenesses are those of samples that are told: true ones, so that many orders are told of them.
func likenesses(x []int) []int {
	all := make([]int, 40)
	for k := range all {
		for i := k; i < len(x); i++ {
			all[k] += x[i] * x[i-k]
		}
	}
	return all
}

// smoothed are numbers each of which has seven eighths of the one ahead of it added.
func smoothed(x []int) []int {
	all := slices.Clone(x)
	for i := 1; i < len(all); i++ {
		all[i] += all[i-1] * 7 / 8
	}
	return all
}

// inputs are lists of numbers of many kinds, none further from 0 than the first one.
func inputs() [][]int {
	all := [][]int{
		nil, {}, {0}, {1}, {most}, {0, 0}, {1, 0}, {1, 1}, {1, -1}, {4, 2, 1}, {3, -1, 1}, {3, -2, 0, 2, -2, 1},
		{most, most}, {most, -most}, {most, most - 1, 1 - most}, {most, most / 2, -most / 4, -1, 1},
	}
	for _, first := range []int{1, 2, 3, 7, 8, 100, 1000, 32767, Unit, Top - 1, Top, Top + 1, 2*Top - 1, 2 * Top, 2*Top + 1, 1 << 44, most - 1, most} {
		for _, many := range []int{1, 2, 3, 8, 32, 33, 40} {
			for _, far := range []int{1, 2, 10} {
				all = append(all, append([]int{first}, unruly(many, max(first/far, 1))...))
			}
		}
		all = append(all, slices.Concat([]int{first}, make([]int, 40)))
	}
	for i, first := range []int{1, 2, 3, 5, 9, 20, 99, 1000, 50000, Unit - 1, Unit, 1 << 25, Top - 1, Top - 1, Top - 1, Top - 1, Top - 1, Top / 2} {
		for _, far := range []int{Unit / 16, Unit / 4, Unit / 2, Unit * 3 / 4, Unit - 1} {
			r := steered(first, unruly(35+i, far))
			all = append(all, r)
			if first >= Top/2 {
				all = append(all, raised(r, 1), raised(r, 2), raised(r, 17), raised(r, 31))
			}
		}
	}
	for _, many := range []int{1, 2, 33, 100, 576, 4096} {
		x := unruly(many, 1<<15)
		all = append(all, likenesses(x), likenesses(smoothed(x)), likenesses(smoothed(smoothed(x))))
	}
	return all
}

// same tells whether lists of lists have the same numbers.
func same(a, b [][]int) bool {
	return slices.EqualFunc(a, b, slices.Equal[[]int])
}

// hold holds an answer against what it must be.
func hold(t *testing.T, r []int, order int, want [][]int) {
	t.Helper()
	if got := Solve(r, order); !same(got, want) {
		t.Errorf("%v by the order %d: %v, not %v", r, order, got, want)
	}
}

// P10.1: the constants have the chapter's values.
func TestConstants(t *testing.T) {
	if Unit != 1048576 || Top != 1073741824 || Far != 67108864 {
		t.Error(Unit, Top, Far)
	}
	if 1<<unitBits != Unit {
		t.Error(unitBits)
	}
}

// P10.1: the chapter's example, and others that are reckoned by hand.
func TestExamples(t *testing.T) {
	for _, c := range []struct {
		r     []int
		order int
		want  [][]int
	}{
		{[]int{4, 2, 1}, 2, [][]int{{524288}, {524288, 0}}},
		{[]int{4, 2, 1}, 1, [][]int{{524288}}},
		{[]int{4, -1, 0}, 2, [][]int{{-262144}, {-278528, -65536}}},
		{[]int{8, 0, 0, 4}, 3, [][]int{{0}, {0, 0}, {0, 0, 524288}}},
		// A product over Unit is rounded down, above 0 and below; only then it is less.
		{[]int{3, 1, 1}, 2, [][]int{{349525}, {271853, 233017}}},
		{[]int{3, -1, 1}, 2, [][]int{{-349525}, {-271852, 233017}}},
		// e is 2 for the second order here, as -1.9.. is rounded down to -2 within; and 3 there, as 1.9.. is rounded down to 1.
		{[]int{3, -2, 1}, 2, [][]int{{-699050}, {-815557, -174762}}},
		{[]int{3, 2, 1}, 2, [][]int{{699050}, {776722, -116508}}},
	} {
		hold(t, c.r, c.order, c.want)
	}
}

// P10.1: numbers of all kinds by all orders, those beside the limits too.
func TestSolve(t *testing.T) {
	deep := 0
	for _, r := range inputs() {
		want := modelSolve(t, r, api.MaxOrder, Far)
		if len(want) == api.MaxOrder {
			deep++
		}
		for _, order := range []int{1, 2, 3, 31, 32, 33} {
			hold(t, r, order, want[:min(order, len(want))])
		}
	}
	if deep < 50 {
		t.Errorf("only %d inputs have all orders", deep)
	}
}

// P10.1, R4: of no numbers, and where the first one is 0, nothing is told.
func TestNothing(t *testing.T) {
	for _, r := range [][]int{nil, {}, {0}, {0, 0}, make([]int, 33), make([]int, 100)} {
		for _, order := range []int{math.MinInt, -1, 0, 1, 2, 32, 33, math.MaxInt} {
			hold(t, r, order, nil)
		}
	}
}

// P10.1: a first number of 1, where none is further from 0: factors are 0, or there are none.
func TestFirstOne(t *testing.T) {
	hold(t, []int{1}, 9, nil)
	hold(t, []int{1, 0}, 9, [][]int{{0}})
	hold(t, []int{1, 0, 0}, 9, [][]int{{0}, {0, 0}})
	hold(t, []int{1, 1, 0}, 9, nil)
	hold(t, []int{1, -1, 0}, 9, nil)
	hold(t, []int{1, 0, 1, 0}, 9, [][]int{{0}})
	hold(t, []int{1, 0, 0, -1}, 9, [][]int{{0}, {0, 0}})
}

// P10.1: the greatest first number; all are divided by 2^33 then.
func TestFirstMost(t *testing.T) {
	hold(t, []int{most}, 9, nil)
	hold(t, []int{most, most / 2}, 9, [][]int{{524288}})
	hold(t, []int{most, -most / 2}, 9, [][]int{{-524288}})
	hold(t, []int{most, most / 2, most / 4}, 9, [][]int{{524288}, {524288, 0}})
	hold(t, []int{most, most}, 9, nil)
	hold(t, []int{most, -most}, 9, nil)
	hold(t, []int{most, most - 1}, 9, [][]int{{1048575}})
	// Rounded down this is -most again, and q just -Unit.
	hold(t, []int{most, 1 - most}, 9, nil)
	hold(t, []int{most, 1<<33 - most}, 9, [][]int{{-1048575}})
	hold(t, []int{most, 1}, 9, [][]int{{0}})
	hold(t, []int{most, -1}, 9, [][]int{{0}})
	hold(t, []int{most, 1<<42 - 1}, 9, [][]int{{0}})
	hold(t, []int{most, 1 << 42}, 9, [][]int{{1}})
	hold(t, []int{most, 1<<33 - 1<<42}, 9, [][]int{{0}})
	hold(t, []int{most, 1<<33 - 1<<42 - 1}, 9, [][]int{{-1}})
	// One less is divided by 2^32 alone: by 2^33 -1023 were -512, and q -1.
	hold(t, []int{most - 1, 1<<32 - 1<<42}, 9, [][]int{{0}})
	hold(t, []int{most - 1, -1 << 42}, 9, [][]int{{-1}})
}

// P10.1: below Top nothing is divided, at it and beyond all are; no more than must be, and rounded down below 0.
func TestDivided(t *testing.T) {
	for _, c := range []struct{ first, second, q int }{
		// Were this one divided the second were -512, and q -1.
		{Top - 1, -1023, 0},
		{Top - 1, -1024, -1},
		{Top - 1, 1023, 0},
		{Top - 1, 1024, 1},
		// Here -1022 is -511, and -1023 is -512; divided once more -1022 were -256, and q -1.
		{Top, -1022, 0},
		{Top, -1023, -1},
		{Top, -1024, -1},
		{Top, 1023, 0},
		{Top, 1024, 1},
		{Top, 1025, 1},
		{Top + 1, -1022, 0},
		{Top + 1, -1023, -1},
		{2*Top - 2, -2045, 0},
		{2*Top - 2, -2046, 0},
		{2*Top - 2, -2047, -1},
		{2*Top - 1, -2046, 0},
		{2*Top - 1, -2047, -1},
		{2 * Top, -2044, 0},
		{2 * Top, -2045, -1},
		{2 * Top, 2047, 0},
		{2 * Top, 2048, 1},
	} {
		hold(t, []int{c.first, c.second}, 1, [][]int{{c.q}})
	}
	// -Top - 1 is rounded down to -2^29 - 1, and q is cut off to just -Unit.
	hold(t, []int{Top + 1, -Top - 1}, 1, nil)
	hold(t, []int{Top + 1, -Top}, 1, nil)
	hold(t, []int{Top + 1, 2 - Top}, 1, [][]int{{-1048575}})
	// All of them are divided, not the first ones alone.
	r := []int{Top, 0, 0, 0, -1023, 0}
	hold(t, r, 9, [][]int{{0}, {0, 0}, {0, 0, 0}, {0, 0, 0, -1}, {0, 0, 0, -1, 0}})
}

// P10.1: an order is held to MaxOrder at most; below 1 there is none, however far off it is.
func TestOrders(t *testing.T) {
	r := steered(Top-1, unruly(39, Unit/4))
	all := modelSolve(t, r, 32, Far)
	if len(r) != 40 || len(all) != 32 {
		t.Fatal(len(r), len(all))
	}
	for order := range api.MaxOrder + 1 {
		hold(t, r, order, all[:order])
	}
	for _, order := range []int{math.MinInt, math.MinInt + 1, -1 << 32, -1<<32 + 5, -33, -32, -2, -1, 0} {
		hold(t, r, order, nil)
	}
	for _, order := range []int{33, 34, 39, 40, 41, 64, 256, 1 << 32, 1<<32 + 5, math.MaxInt - 1, math.MaxInt} {
		hold(t, r, order, all)
	}
}

// P10.1: it ends where there is no number for an order.
func TestNoSuchNumber(t *testing.T) {
	r := steered(Top-1, unruly(39, Unit/4))
	all := modelSolve(t, r, 32, Far)
	for many := 1; many <= len(r); many++ {
		for _, order := range []int{many - 2, many - 1, many, many + 1, 32, 33, math.MaxInt} {
			hold(t, r[:many], order, all[:max(0, min(order, many-1, 32))])
		}
	}
	hold(t, []int{4, 2}, 1, [][]int{{524288}})
	hold(t, []int{4, 2}, 2, [][]int{{524288}})
	hold(t, []int{4}, 1, nil)
}

// P10.1: q is cut off towards 0, below 0 too.
func TestCutOff(t *testing.T) {
	hold(t, []int{3, 1}, 1, [][]int{{349525}})
	hold(t, []int{3, -1}, 1, [][]int{{-349525}})
	hold(t, []int{3, 2}, 1, [][]int{{699050}})
	hold(t, []int{3, -2}, 1, [][]int{{-699050}})
	hold(t, []int{1 << 21, -1}, 1, [][]int{{0}})
	hold(t, []int{1 << 21, -3}, 1, [][]int{{-1}})
	hold(t, []int{1 << 21, 3}, 1, [][]int{{1}})
	// Of a later order: the sum is -349525, and e is 3.
	hold(t, []int{3, 1, 0}, 2, [][]int{{349525}, {388361, -116508}})
	hold(t, []int{4, 2, -1}, 2, [][]int{{524288}, {873813, -699050}})
}

// P10.1: q must be between -Unit and Unit, both left out; where it isn't, it ends, and what was told stays told.
func TestUnit(t *testing.T) {
	hold(t, []int{Unit, Unit}, 9, nil)
	hold(t, []int{Unit, -Unit}, 9, nil)
	hold(t, []int{Unit, Unit - 1}, 9, [][]int{{1048575}})
	hold(t, []int{Unit, 1 - Unit}, 9, [][]int{{-1048575}})
	// A quarter below Unit, and above -Unit: cut off both are between.
	hold(t, []int{4 * Unit, 4*Unit - 1}, 9, [][]int{{1048575}})
	hold(t, []int{4 * Unit, 1 - 4*Unit}, 9, [][]int{{-1048575}})
	hold(t, []int{4, 4, 0, 0}, 9, nil)
	hold(t, []int{4, -4, 0, 0}, 9, nil)

	first := []int{524288}
	for _, c := range []struct{ third, q int }{
		// q is the third less 2^20, divided by 3.
		{4 * Unit, Unit}, {4*Unit - 1, Unit - 1}, {4*Unit - 3, Unit - 1}, {4*Unit - 4, Unit - 2},
		{-2*Unit - 4, -Unit - 1}, {-2*Unit - 3, -Unit - 1}, {-2*Unit - 2, -Unit}, {-2*Unit - 1, -Unit}, {-2 * Unit, -Unit}, {1 - 2*Unit, 1 - Unit}, {3 - 2*Unit, 1 - Unit}, {4 - 2*Unit, 2 - Unit}, {-4 * Unit, 0},
	} {
		want := [][]int{first}
		if c.third > -2*Unit && c.third < 4*Unit {
			// Half of q, rounded down, is less.
			want = append(want, []int{524288 - c.q>>1, c.q})
		}
		hold(t, []int{4 * Unit, 2 * Unit, c.third}, 9, want)
		if len(want) == 1 {
			// Nothing that stands behind is told either.
			hold(t, []int{4 * Unit, 2 * Unit, c.third, Unit, 0}, 9, want)
		}
	}
	hold(t, []int{4, 2, 4, 1, 1}, 9, [][]int{first})
	hold(t, []int{4, 2, -4, 1, 1}, 9, [][]int{first})
}

// P10.1: a factor that is just as far as Far is told; one that is further ends it, and what was told stays told.
func TestFar(t *testing.T) {
	for _, c := range []struct {
		r     []int
		order int
		value int
	}{
		{[]int{1073741823, 660396031, -191174301, -689942866, -397822045, 367733660, 857724640, 607398531, -144867768, -708094329, -589830277}, 10, Far},
		{[]int{1073741823, -706069503, -15019563, 357697986, -21422697, -575151420, 792132012, -466424500, 31706520, 29928685, 261816949}, 10, -Far},
		{[]int{1073741823, 854926335, 378678556, 1930782, -86483583, -1408499, 19543239, -125443270, -336554803, -452712899, -404886815, -235102543}, 11, Far + 1},
		{[]int{1073741823, -714856447, 70637358, 210525010, -125412354, 65468198, -114006671, 98037468, -19969477, -33921990, 150869020, -358401564}, 11, -Far - 1},
	} {
		all := modelSolve(t, c.r, 32, Far+1)
		if len(all) != c.order || !slices.Contains(all[c.order-1], c.value) {
			t.Fatalf("%v has no factor %d by the order %d: %v", c.r, c.value, c.order, all)
		}
		told := all
		if c.value < -Far || c.value > Far {
			told = all[:c.order-1]
		}
		hold(t, c.r, c.order, told)
		if got := Solve(append(c.r, 0, 0), 32); len(got) < len(told) || !same(got[:len(told)], told) || len(told) < c.order && len(got) != len(told) {
			t.Errorf("%v and more behind it: %v", c.r, got)
		}
	}
}

// P10.1: factors that come to be far off, in any place, above 0 and below.
func TestFarther(t *testing.T) {
	ended, places := 0, map[int]int{}
	for many := 12; many < 33; many++ {
		for turn := range 90 {
			qs := unruly(many, Unit*3/8-turn)
			for i := range qs {
				qs[i] = Unit*5/8 + qs[i]
				if turn%3 == 0 || turn%3 == 1 && i%2 == 0 {
					qs[i] = -qs[i]
				}
			}
			r := steered(Top-1, qs)
			want := modelSolve(t, r, 32, Far)
			hold(t, r, 32, want)
			if beyond := modelSolve(t, r, 32, anyFar); len(beyond) > len(want) {
				ended++
				for i, factor := range beyond[len(want)] {
					if factor < -Far || factor > Far {
						places[i]++
					}
				}
			}
		}
	}
	if ended < 20 || len(places) < 8 {
		t.Errorf("only %d inputs were ended so, at %v", ended, places)
	}
}

// P10.1: e may fall as far as to 1: it doesn't end there.
func TestLeast(t *testing.T) {
	// By the orders e is 2, 1, 1, 1, 1.
	hold(t, []int{3, -2, 0, 2, -2, 1}, 9, [][]int{{-699050}, {-1165082, -699050}, {-699047, 77673, 699052}, {-1165078, 25892, 1165081, 699046}, {-1208229, -46027, 1163483, 770966, 64728}})
	// 2, 1, 1.
	hold(t, []int{5, -4, 2, -1}, 9, [][]int{{-838860}, {-1342174, -629144}, {-1870655, -1756570, -880804}})
	// 2, 1; then the third q isn't between -Unit and Unit.
	hold(t, []int{2, -1, -1, 0, 0}, 9, [][]int{{-524288}, {-917504, -786432}})
}

// P10.1: all small numbers there are, few of them: what is rounded weighs most there.
func TestSmall(t *testing.T) {
	for first := 1; first <= 6; first++ {
		for a := -first; a <= first; a++ {
			for b := -first; b <= first; b++ {
				for c := -first; c <= first; c++ {
					r := []int{first, a, b, c, -a}
					hold(t, r, 32, modelSolve(t, r, 32, Far))
				}
			}
		}
	}
}

// P10.2: those of the order m are m factors, and a greater order has the same ones first.
func TestLesserOrders(t *testing.T) {
	for _, r := range inputs() {
		all := Solve(r, api.MaxOrder)
		for i, factors := range all {
			if len(factors) != i+1 {
				t.Fatalf("%v: %d factors of the order %d", r, len(factors), i+1)
			}
		}
		for order := -1; order <= api.MaxOrder+1; order++ {
			hold(t, r, order, all[:max(0, min(order, len(all)))])
		}
	}
}

// P10.2: if all but the first are 0 all factors are.
func TestZeros(t *testing.T) {
	for _, first := range []int{1, 2, 3, Unit, Top - 1, Top, Top + 1, most - 1, most} {
		for _, many := range []int{1, 2, 31, 32, 33, 99} {
			got := Solve(slices.Concat([]int{first}, make([]int, many)), many)
			if len(got) != min(many, api.MaxOrder) {
				t.Errorf("%d and %d zeros: %d orders", first, many, len(got))
			}
			for i, factors := range got {
				if !slices.Equal(factors, make([]int, i+1)) {
					t.Errorf("%d and %d zeros: %v", first, many, factors)
				}
			}
		}
	}
}

// R5: what is handed in is not changed, even where all are divided; each list that is answered is memory of its own.
func TestHandedIn(t *testing.T) {
	for _, by := range []int{0, 31} {
		r := raised(steered(Top-1, unruly(32, Unit/4)), by)
		kept := slices.Clone(r)
		got := Solve(r, api.MaxOrder)
		if !slices.Equal(r, kept) {
			t.Errorf("%v was changed to %v", kept, r)
		}
		want := modelSolve(t, kept, api.MaxOrder, Far)
		for i, factors := range got {
			if !slices.Equal(factors, want[i]) {
				t.Fatalf("the order %d is %v, not %v", i+1, factors, want[i])
			}
			factors = append(factors, 7)
			for j := range factors {
				factors[j] = 99
			}
			clear(got[i])
		}
		if !slices.Equal(r, kept) {
			t.Error("an answer shares memory with what was handed in")
		}
		hold(t, r, api.MaxOrder, want)
	}
}

// R1: of numbers of which nothing else is promised the call ends.
func TestOthers(t *testing.T) {
	edges := []int{math.MinInt, math.MinInt + 1, -most - 1, -most, -Top, -Unit, -2, -1, 0, 1, 2, Unit, Top, most, most + 1, math.MaxInt - 1, math.MaxInt}
	for _, first := range edges {
		for _, second := range edges {
			for _, third := range edges {
				r := slices.Concat([]int{first}, slices.Repeat([]int{second, third, third}, 12))
				if got := Solve(r, math.MaxInt); len(got) > api.MaxOrder {
					t.Errorf("%v: %d orders", r, len(got))
				}
			}
		}
	}
}

// P10.1, P10.2: any numbers, by any order.
func FuzzSolve(f *testing.F) {
	f.Add([]byte{}, 2)
	f.Add([]byte{4, 0, 0, 0, 0, 0, 0, 0, 2, 0, 0, 0, 0, 0, 0, 0, 1, 0, 0, 0, 0, 0, 0, 0}, 2)
	f.Add([]byte{0, 0, 0, 0, 0, 0, 0, 64, 1, 0, 0, 0, 0, 0, 0, 192, 255, 255, 255, 255, 255, 255, 255, 31}, 99)
	f.Add([]byte{0, 0, 0, 64, 0, 0, 0, 0, 1, 252, 255, 255, 255, 255, 255, 255}, -1)
	f.Fuzz(func(t *testing.T, b []byte, order int) {
		var r []int
		for ; len(b) >= 8 && len(r) < 40; b = b[8:] {
			number := int(int64(binary.LittleEndian.Uint64(b)))
			if len(r) == 0 {
				r = append(r, min(max(number, -(number+1)), most))
				continue
			}
			// None is further from 0 than the first one; of one in two the half is added that lets it be as far.
			half := r[0] / 2
			rest := number % (half + 1)
			if number&(1<<62) != 0 && rest < 0 {
				rest -= half
			} else if number&(1<<62) != 0 {
				rest += half
			}
			r = append(r, rest)
		}
		got := Solve(r, order)
		if want := modelSolve(t, r, order, Far); !same(got, want) {
			t.Fatalf("%v by the order %d: %v, not %v", r, order, got, want)
		}
		if first := Solve(r, order/2); order > 0 && !same(first, got[:min(order/2, len(got))]) {
			t.Fatalf("%v by the order %d: %v, not as by %d: %v", r, order/2, first, order, got)
		}
	})
}
