package quant

import (
	"encoding/binary"
	"math"
	"math/big"
	"slices"
	"testing"

	"serinette/api"
)

// edge is the furthest factor of which all is promised; -edge is so too.
const edge = 1 << 40

// half is half of Unit, written out.
const half = 524288

// whole and halfOf are the chapter's Unit and half of it, in numbers of any size.
var whole, halfOf = big.NewInt(1048576), big.NewInt(half)

// times is a number times 2^s.
func times(number, s int) *big.Int {
	two := new(big.Int).Exp(big.NewInt(2), big.NewInt(int64(s)), nil)
	return two.Mul(two, big.NewInt(int64(number)))
}

// modelShift is the greatest shift of all that can be, by the chapter's words: each is tried; -1 is none.
func modelShift(a []int, precision int) int {
	limit := new(big.Int).Mul(times(1, precision-1), whole)
	greatest := -1
	for s := 0; s <= 15; s++ {
		// Where none is too far the furthest one isn't.
		tooFar := func(factor int) bool { return times(factor, s).CmpAbs(limit) >= 0 }
		if !slices.ContainsFunc(a, tooFar) {
			greatest = s
		}
	}
	return greatest
}

// cut is what the chapter's second promise has come to, factor by factor.
type cut struct {
	told    []int
	carried *big.Int
	// high and low are how many were held at either end.
	high, low int
}

// modelCut is what is told of factors by a shift, by the chapter's words.
func modelCut(a []int, shift, precision int) *cut {
	c := &cut{carried: new(big.Int)}
	most, least := times(1, precision-1), times(-1, precision-1)
	most.Sub(most, big.NewInt(1))
	for _, factor := range a {
		due := new(big.Int).Add(c.carried, times(factor, shift))
		told := new(big.Int).Add(due, halfOf)
		// Div rounds down where the divisor is above 0.
		told.Div(told, whole)
		if told.Cmp(most) > 0 {
			told, c.high = most, c.high+1
		} else if told.Cmp(least) < 0 {
			told, c.low = least, c.low+1
		}
		c.told = append(c.told, int(told.Int64()))
		c.carried = due.Sub(due, new(big.Int).Mul(told, whole))
	}
	return c
}

// model is what Quantise must answer, by the chapter's words.
func model(a []int, precision int) (api.Lpc, api.Errno) {
	if len(a) == 0 || len(a) > 32 || precision < 2 || precision > 15 {
		return api.Lpc{}, api.ErrArg
	}
	shift := modelShift(a, precision)
	if shift < 0 || !slices.ContainsFunc(a, func(factor int) bool { return factor != 0 }) {
		return api.Lpc{}, api.ErrRange
	}
	return api.Lpc{Shift: shift, Precision: precision, Factors: modelCut(a, shift, precision).told}, api.OK
}

// same tells whether two predictors are the same.
func same(a, b api.Lpc) bool {
	return a.Shift == b.Shift && a.Precision == b.Precision && slices.Equal(a.Factors, b.Factors)
}

// hold holds an answer against factors and a shift that it must have.
func hold(t *testing.T, a []int, precision, shift int, want ...int) {
	t.Helper()
	got, e := Quantise(a, precision)
	if e != api.OK || !same(got, api.Lpc{Shift: shift, Precision: precision, Factors: want}) {
		t.Errorf("%v with the precision %d: %v, %v; not the shift %d and %v", a, precision, got, e, shift, want)
	}
}

// refuse holds an answer against an error that it must be, with nothing beside it.
func refuse(t *testing.T, a []int, precision int, want api.Errno) {
	t.Helper()
	if got, e := Quantise(a, precision); e != want || !same(got, api.Lpc{}) {
		t.Errorf("%v with the precision %d: %v, %v; not %v", a, precision, got, e, want)
	}
}

// filled is many times the same factor.
func filled(many, factor int) []int {
	return slices.Repeat([]int{factor}, many)
}

// unruly makes factors that look unruly, from -far to far, always the same ones.
func unruly(many, far int) []int {
	x := make([]int, many)
	state := uint64(many)<<41 ^ uint64(far)
	for i := range x {
		state = state*0x5851f42d4c957f2d + 0x14057b7ef767814f
		x[i] = int(state>>21)%(2*far+1) - far
	}
	return x
}

// inputs are lists of up to MaxOrder factors: unruly ones, all alike, by turns above 0 and below, and those whose first or last one alone is far.
func inputs() [][]int {
	var all [][]int
	for _, many := range []int{1, 3, 32} {
		for bits := range 41 {
			for _, far := range []int{1<<bits - 1, 1 << bits, 1<<bits + 1, 1<<bits + 1<<bits>>1} {
				far = min(far, edge)
				one := unruly(many, far/8)
				one[0] = far
				last := unruly(many, far/8)
				last[many-1] = -far
				turns := filled(many, far)
				for i := 1; i < many; i += 2 {
					turns[i] = -far
				}
				all = append(all, unruly(many, far), filled(many, far), filled(many, -far), one, last, turns)
			}
		}
	}
	return all
}

// P11.1: the constants have the chapter's values.
func TestConstants(t *testing.T) {
	if Unit != 1048576 || Most != 15 || 1<<unitBits != Unit {
		t.Error(Unit, Most, unitBits)
	}
}

// P11.1, P11.2: the chapter's example, and others that are reckoned by hand.
func TestExamples(t *testing.T) {
	hold(t, []int{524288, -262144}, 4, 3, 4, -2)
	hold(t, []int{524288, -262144}, 2, 1, 1, 0)
	hold(t, []int{524288, -262144}, 3, 2, 2, -1)
	hold(t, []int{524288, -262144}, 15, 14, 8192, -4096)
	hold(t, []int{1048576}, 2, 0, 1)
	hold(t, []int{-1048576}, 2, 0, -1)
	hold(t, []int{1 << 26, -1 << 25, 1}, 8, 0, 64, -32, 0)
	// 1200000 is 1, and 151424 is carried; so much more each time.
	hold(t, []int{300000, 300000, 300000, 300000, 0}, 2, 2, 1, 1, 1, 1, 1)
	hold(t, []int{300000, 300000, 300000, -300000, 0}, 2, 2, 1, 1, 1, -1, 0)
}

// P11.1, R4: there is one factor at least, and MaxOrder at most.
func TestMany(t *testing.T) {
	for precision := 2; precision <= 15; precision++ {
		refuse(t, nil, precision, api.ErrArg)
		refuse(t, []int{}, precision, api.ErrArg)
		for many := 1; many <= 32; many++ {
			// What is told is a whole times 2^shift: nothing is carried.
			hold(t, filled(many, Unit), precision, precision-2, filled(many, 1<<(precision-2))...)
		}
		for _, many := range []int{33, 34, 63, 64, 65, 288, 65536, 65568} {
			refuse(t, filled(many, Unit), precision, api.ErrArg)
		}
	}
}

// P11.1: a precision is from 2 to Most.
func TestPrecisions(t *testing.T) {
	for _, precision := range []int{math.MinInt, math.MinInt + 1, -1 << 32, 2 - 1<<32, -63, -15, -2, -1, 0, 1, 16, 17, 31, 32, 63, 64, 65, 256 + 4, 1<<32 + 4, math.MaxInt - 1, math.MaxInt} {
		refuse(t, []int{524288, -262144}, precision, api.ErrArg)
		refuse(t, []int{1}, precision, api.ErrArg)
	}
	for precision := 2; precision <= 15; precision++ {
		hold(t, []int{1 << 19}, precision, precision-1, 1<<(precision-2))
	}
}

// P11.1, R2: where what is asked can't be it is that which is told, and not that factors are all 0 or too far from 0.
func TestWhichError(t *testing.T) {
	for _, precision := range []int{math.MinInt, -1, 0, 1, 16, 17, math.MaxInt} {
		refuse(t, nil, precision, api.ErrArg)
		refuse(t, []int{0}, precision, api.ErrArg)
		refuse(t, filled(32, 0), precision, api.ErrArg)
		refuse(t, filled(33, 0), precision, api.ErrArg)
		refuse(t, []int{edge}, precision, api.ErrArg)
		refuse(t, []int{-edge, 0}, precision, api.ErrArg)
	}
	for precision := 2; precision <= 15; precision++ {
		refuse(t, filled(33, 0), precision, api.ErrArg)
		refuse(t, filled(33, edge), precision, api.ErrArg)
	}
}

// P11.1: of factors that are all 0 nothing is told; one that isn't is enough.
func TestZeros(t *testing.T) {
	for precision := 2; precision <= 15; precision++ {
		for many := 1; many <= 32; many++ {
			a := make([]int, many)
			refuse(t, a, precision, api.ErrRange)
			for _, one := range []int{1, -1} {
				a[many-1] = one
				hold(t, a, precision, 15, make([]int, many)...)
			}
		}
	}
}

// atAll hands each place of a list a factor; what else is there is nearer to 0, and has the other sign too.
func atAll(factor int, each func(a []int)) {
	for _, many := range []int{1, 2, 3, 31, 32} {
		for _, place := range []int{0, many / 2, many - 1} {
			a := unruly(many, max(factor, -factor)-1)
			a[place] = factor
			each(a)
		}
	}
}

// P11.1: at and beside each place where the shift changes, above 0 and below, by the furthest factor, wherever it stands.
func TestShifts(t *testing.T) {
	for precision := 2; precision <= 15; precision++ {
		for s := 0; s <= 15; s++ {
			// Times 2^s this one is just 2^(precision - 1) times Unit.
			just := 1 << (precision + 19 - s)
			for _, c := range []struct{ size, shift int }{{just - 1, s}, {just, s - 1}, {just + 1, s - 1}} {
				check := func(a []int) {
					t.Helper()
					if c.shift < 0 {
						refuse(t, a, precision, api.ErrRange)
					} else if got, e := Quantise(a, precision); e != api.OK || got.Shift != c.shift || got.Precision != precision {
						t.Errorf("%v with the precision %d: %v, %v; not the shift %d", a, precision, got, e, c.shift)
					}
				}
				atAll(c.size, check)
				atAll(-c.size, check)
			}
		}
	}
	hold(t, []int{8388607}, 4, 0, 7)
	hold(t, []int{-8388607}, 4, 0, -8)
	refuse(t, []int{8388608}, 4, api.ErrRange)
	refuse(t, []int{-8388608}, 4, api.ErrRange)
	hold(t, []int{4194304}, 4, 0, 4)
	hold(t, []int{4194303}, 4, 1, 7)
	hold(t, []int{-4194304}, 4, 0, -4)
	hold(t, []int{-4194303}, 4, 1, -8)
	// It is the furthest one that tells, be it the one below 0.
	hold(t, []int{4194303, -4194304, 4194303}, 4, 0, 4, -4, 4)
	hold(t, []int{-4194303, 4194304, -4194303}, 4, 0, -4, 4, -4)
}

// P11.1: the shift is Most at most, however near to 0 factors are.
func TestNear(t *testing.T) {
	for precision := 2; precision <= 15; precision++ {
		for far := 1; far < 1<<(precision+4); far = far*5/4 + 1 {
			for _, a := range [][]int{{far}, {-far}, {0, far, -far}, filled(32, -far)} {
				if got, e := Quantise(a, precision); e != api.OK || got.Shift != 15 {
					t.Errorf("%v with the precision %d: %v, %v", a, precision, got, e)
				}
			}
		}
	}
	hold(t, []int{63, -63}, 2, 15, 1, -1)
	hold(t, []int{64, -64}, 2, 14, 1, -1)
	hold(t, []int{32, -32}, 2, 15, 1, -1)
	hold(t, []int{524287}, 15, 15, 16383)
	hold(t, []int{524288}, 15, 14, 8192)
}

// P11.1: the furthest factors of which all is promised are too far for all precisions.
func TestFar(t *testing.T) {
	for precision := 2; precision <= 15; precision++ {
		for _, far := range []int{edge, edge - 1, 1 << 39, 1 << 35, 1<<34 + 1, 1 << 34} {
			for _, many := range []int{1, 2, 32} {
				for _, factor := range []int{far, -far} {
					refuse(t, filled(many, factor), precision, api.ErrRange)
					a := unruly(many, 1)
					a[many-1] = factor
					refuse(t, a, precision, api.ErrRange)
				}
			}
		}
	}
	hold(t, []int{1<<34 - 1, 0}, 15, 0, 16383, 1)
	hold(t, []int{1 - 1<<34, 0}, 15, 0, -16384, 0)
}

// P11.2: what is lost goes on to the next factor, above 0 and below, till it is half of Unit.
func TestCarried(t *testing.T) {
	// 32768 is carried more each time: sixteen are just half of Unit, which is rounded up.
	up := slices.Concat(make([]int, 15), []int{1}, make([]int, 16))
	hold(t, filled(32, 1), 15, 15, up...)
	// Below 0 half of Unit is rounded up too: the seventeenth is the first that is more.
	down := slices.Concat(make([]int, 16), []int{-1}, make([]int, 15))
	hold(t, filled(32, -1), 15, 15, down...)
	for _, c := range []struct {
		a    []int
		want []int
	}{
		// With the precision 3 a furthest factor of 2 wholes and more, but below 4, has the shift 0.
		{[]int{2*Unit + 300000, 224287, 0}, []int{2, 0, 0}},
		{[]int{2*Unit + 300000, 224288, 0}, []int{2, 1, 0}},
		{[]int{2*Unit - 300000 + Unit, -224288, 0}, []int{3, 0, 0}},
		{[]int{2*Unit - 300000 + Unit, -224289, 0}, []int{3, -1, 0}},
		{[]int{-2*Unit - 300000, -224288, 0}, []int{-2, 0, 0}},
		{[]int{-2*Unit - 300000, -224289, 0}, []int{-2, -1, 0}},
		{[]int{-3*Unit + 300000, 224287, 0}, []int{-3, 0, 0}},
		{[]int{-3*Unit + 300000, 224288, 0}, []int{-3, 1, 0}},
		// It stays carried over those that tell nothing of it.
		{[]int{2*Unit + 1, 0, 0, Unit / 2, -1, -Unit / 2}, []int{2, 0, 0, 1, 0, -1}},
		{[]int{2 * Unit, 0, 0, Unit/2 - 1, 1, Unit / 2}, []int{2, 0, 0, 0, 1, 0}},
		{[]int{-2*Unit - 1, 0, 0, -Unit / 2, 1, Unit / 2}, []int{-2, 0, 0, -1, 1, 0}},
	} {
		hold(t, c.a, 3, 0, c.want...)
	}
}

// P11.2: half of Unit is rounded up, above 0 and below, just at it and beside it.
func TestHalf(t *testing.T) {
	for _, c := range []struct{ factor, first, second int }{
		// A second factor of a bit less than half of Unit is 1 only where what is carried is above 0.
		{2*Unit + half - 1, 2, 1}, {2*Unit + half, 3, 0}, {2*Unit + half + 1, 3, 0},
		{3*Unit - 1, 3, 0}, {3 * Unit, 3, 0}, {3*Unit + 1, 3, 1},
		{-2*Unit - half + 1, -2, 0}, {-2*Unit - half, -2, 0}, {-2*Unit - half - 1, -3, 1},
		{-3*Unit - 1, -3, 0}, {-3 * Unit, -3, 0}, {-3*Unit + 1, -3, 1},
	} {
		hold(t, []int{c.factor, half - 1}, 3, 0, c.first, c.second)
	}
	// Where a factor goes up first it is what it is then that is rounded.
	hold(t, []int{Unit + half/2}, 3, 1, 3)
	hold(t, []int{Unit + half/2 - 1}, 3, 1, 2)
	hold(t, []int{-Unit - half/2}, 3, 1, -2)
	hold(t, []int{-Unit - half/2 - 1}, 3, 1, -3)
}

// P11.2: a factor is held at the upper end of its bits; all that was lost goes on, and is told where there is room.
func TestHeld(t *testing.T) {
	hold(t, []int{3*Unit + half - 1, 0}, 3, 0, 3, 0)
	// This one would be 4: half is carried, and rounded up behind it.
	hold(t, []int{3*Unit + half, 0}, 3, 0, 3, 1)
	hold(t, []int{4*Unit - 1, 0, 0}, 3, 0, 3, 1, 0)
	hold(t, []int{4*Unit - 1, 3 * Unit, 0}, 3, 0, 3, 3, 1)
	hold(t, []int{4*Unit - 1, -4*Unit + 1}, 3, 0, 3, -3)
	hold(t, []int{4*Unit - 1, -half, -half}, 3, 0, 3, 0, 0)
	hold(t, []int{2*Unit - 1, 2*Unit - 1, 2*Unit - 1, 0, 0, 0, 0}, 2, 0, 1, 1, 1, 1, 1, 1, 0)
	hold(t, []int{2*Unit - 1, 2*Unit - 1, -Unit, -Unit, 0}, 2, 0, 1, 1, 1, -1, 0)
	for precision := 2; precision <= 15; precision++ {
		most := 1<<(precision-1) - 1
		far := (most+1)*Unit - 1
		hold(t, filled(32, far), precision, 0, filled(32, most)...)
		// Of each of sixteen a whole is lost, but one of its parts: it is told behind them, as much at a time as there is room for.
		want := filled(16, most)
		for left := 16; left > 0; left -= most {
			want = append(want, min(left, most))
		}
		want = slices.Concat(want, make([]int, 32-len(want)))
		hold(t, slices.Concat(filled(16, far), make([]int, 16)), precision, 0, want...)
	}
}

// P11.2: the lower end of a factor's bits is told; half of Unit that is carried below 0 leads no further.
func TestLowerEnd(t *testing.T) {
	for precision := 2; precision <= 15; precision++ {
		least := -1 << (precision - 1)
		far := least*Unit + 1
		// One of its parts is carried of each.
		hold(t, filled(32, far), precision, 0, filled(32, least)...)
		hold(t, []int{far, half - 1}, precision, 0, least, 1)
		hold(t, []int{far, half - 2}, precision, 0, least, 0)
		hold(t, []int{far, -half - 1}, precision, 0, least, 0)
		hold(t, []int{far, -half - 2}, precision, 0, least, -1)
		// Half of Unit is carried below 0, as much as can be; the next one is as far below 0 as can be.
		hold(t, []int{(least+1)*Unit - half, far, 0}, precision, 0, least+1, least, 0)
		hold(t, []int{(least+1)*Unit - half, far, -1}, precision, 0, least+1, least, 0)
		hold(t, []int{(least+1)*Unit - half, far, -2}, precision, 0, least+1, least, -1)
		hold(t, []int{(least+1)*Unit - half - 1, 0}, precision, 0, least, 0)
		hold(t, []int{(least+1)*Unit - half - 1, 1}, precision, 0, least, 1)
	}
}

// P11.1, P11.2: factors of all kinds with all precisions.
func TestQuantise(t *testing.T) {
	told, refused, held := 0, 0, 0
	for _, a := range inputs() {
		for precision := 1; precision <= 16; precision++ {
			want, e := model(a, precision)
			if e != api.OK {
				refused++
				refuse(t, a, precision, e)
				continue
			}
			told++
			held += modelCut(a, want.Shift, precision).high
			hold(t, a, precision, want.Shift, want.Factors...)
		}
	}
	if told < 10000 || refused < 1000 || held < 1000 {
		t.Errorf("only %d are told, %d refused, %d held", told, refused, held)
	}
}

// P11.1, P11.2: all small factors there are, few of them.
func TestSmall(t *testing.T) {
	for a := -9; a <= 9; a++ {
		for b := -9; b <= 9; b++ {
			for c := -9; c <= 9; c++ {
				for _, by := range []int{1, 7, 116508, Unit / 4, Unit/2 - 1} {
					factors := []int{a * by, b * by, c * by}
					want, e := model(factors, 3)
					if got, err := Quantise(factors, 3); err != e || !same(got, want) {
						t.Errorf("%v: %v, %v; not %v, %v", factors, got, err, want, e)
					}
				}
			}
		}
	}
}

// differ is how much factors that are told differ all together, times Unit, from what they were, times 2^shift.
func differ(a []int, l api.Lpc) *big.Int {
	sum := new(big.Int)
	for i, factor := range a {
		sum.Add(sum, times(factor, l.Shift))
		sum.Sub(sum, new(big.Int).Mul(big.NewInt(int64(l.Factors[i])), whole))
	}
	return sum
}

// P11.3: no factor has more bits than the precision; where none is held half of Unit at most is lost of all together.
func TestLost(t *testing.T) {
	free, ends := 0, map[int]int{}
	for _, a := range inputs() {
		for precision := 2; precision <= 15; precision++ {
			got, e := Quantise(a, precision)
			if e != api.OK {
				continue
			}
			least, most := slices.Min(got.Factors), slices.Max(got.Factors)
			if len(got.Factors) != len(a) || least < -1<<(precision-1) || most > 1<<(precision-1)-1 {
				t.Errorf("%v with the precision %d: %v", a, precision, got)
				continue
			}
			// Below this one none was held.
			if most < 1<<(precision-1)-1 {
				free++
				if differ(a, got).CmpAbs(halfOf) > 0 {
					t.Errorf("%v with the precision %d: %v is %v too little", a, precision, got, differ(a, got))
				}
			} else {
				ends[1]++
			}
			if least == -1<<(precision-1) {
				ends[-1]++
			}
		}
	}
	if free < 5000 || ends[1] < 500 || ends[-1] < 500 {
		t.Errorf("only %d have none held, %v are at an end", free, ends)
	}
}

// R5: what is handed in is not changed; what is answered is memory of its own.
func TestHandedIn(t *testing.T) {
	a := slices.Concat(unruly(31, 4*Unit-1), []int{4*Unit - 1})
	for precision := 1; precision <= 15; precision++ {
		kept := slices.Clone(a)
		got, e := Quantise(a, precision)
		if !slices.Equal(a, kept) {
			t.Fatalf("%v was changed to %v", kept, a)
		}
		if e != api.OK {
			continue
		}
		for i := range got.Factors {
			got.Factors[i] = 99
		}
		if !slices.Equal(a, kept) {
			t.Fatal("an answer shares memory with what was handed in")
		}
		want, _ := model(kept, precision)
		hold(t, a, precision, want.Shift, want.Factors...)
	}
	// What stands behind a list in its memory is none of its factors, and stays as it is.
	long := []int{Unit, -Unit, 7, 7}
	hold(t, long[:2], 2, 0, 1, -1)
	if !slices.Equal(long, []int{Unit, -Unit, 7, 7}) {
		t.Errorf("what is behind was changed: %v", long)
	}
}

// R1: of factors of which nothing else is promised the call ends.
func TestOthers(t *testing.T) {
	edges := []int{math.MinInt, math.MinInt + 1, -1 << 62, -1 << 49, -edge - 1, -edge, -1, 0, 1, edge, edge + 1, 1 << 49, 1 << 62, math.MaxInt - 1, math.MaxInt}
	for _, first := range edges {
		for _, second := range edges {
			for _, many := range []int{1, 16, 17} {
				a := slices.Repeat([]int{first, second}, many)
				for _, precision := range []int{math.MinInt, 1, 2, 3, 14, 15, 16, math.MaxInt} {
					got, e := Quantise(a, precision)
					if e != api.OK && !same(got, api.Lpc{}) || e == api.OK && len(got.Factors) != len(a) {
						t.Errorf("%v with the precision %d: %v, %v", a, precision, got, e)
					}
				}
			}
		}
	}
}

// P11.1 to P11.3: any factors from -2^40 to 2^40, with any precision.
func FuzzQuantise(f *testing.F) {
	f.Add([]byte{}, 4)
	f.Add([]byte{0, 0, 8, 0, 0, 0, 0, 0, 252, 255, 255, 0}, 4)
	f.Add([]byte{255, 255, 31, 0, 0, 0, 255, 255, 31, 0, 0, 0, 0, 0, 0, 0, 0, 0}, 2)
	f.Add([]byte{1, 0, 0, 0, 0, 1}, 16)
	f.Fuzz(func(t *testing.T, b []byte, precision int) {
		var a []int
		for ; len(b) >= 6 && len(a) < 34; b = b[6:] {
			// The last byte tells the sign, and how near to 0 the factor is: few would have a shift else.
			size := (int(binary.LittleEndian.Uint32(b)) | int(b[4])<<32) >> ((b[5] >> 1) % 40)
			if b[5]&1 != 0 {
				size = -size
			}
			a = append(a, size)
		}
		want, e := model(a, precision)
		got, err := Quantise(a, precision)
		if err != e || !same(got, want) {
			t.Fatalf("%v with the precision %d: %v, %v; not %v, %v", a, precision, got, err, want, e)
		}
		if e != api.OK {
			return
		}
		c := modelCut(a, want.Shift, precision)
		if c.low > 0 || c.high == 0 && differ(a, got).CmpAbs(halfOf) > 0 {
			t.Fatalf("%v with the precision %d: %v, %d held below", a, precision, got, c.low)
		}
	})
}
