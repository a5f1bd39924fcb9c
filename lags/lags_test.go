package lags

import (
	"encoding/binary"
	"math"
	"math/big"
	"slices"
	"testing"

	"serinette/api"
)

// edge is the greatest number of which all is promised; -edge is the least one.
const edge = 1 << 40

// wide is the first number that is too wide to stay as it is; -wide isn't.
const wide = 1 << Widest

// divided is a number divided by 2^s and rounded down, in numbers of any size.
func divided(number, s int) *big.Int {
	two := new(big.Int).Exp(big.NewInt(2), big.NewInt(int64(s)), nil)
	// Div rounds down where the divisor is above 0.
	return new(big.Int).Div(big.NewInt(int64(number)), two)
}

// modelFit is the least s, by the chapter's words: one after the other is tried.
func modelFit(x []int) int {
	least, most := big.NewInt(-4194304), big.NewInt(4194303)
	for s := 0; ; s++ {
		wrong := func(number int) bool {
			d := divided(number, s)
			return d.Cmp(least) < 0 || d.Cmp(most) > 0
		}
		if !slices.ContainsFunc(x, wrong) {
			return s
		}
	}
}

// modelOf are the sums by the chapter's words, in numbers of any size.
func modelOf(x []int, order int) []int {
	s := modelFit(x)
	small := make([]*big.Int, len(x))
	for i, number := range x {
		small[i] = divided(number, s)
	}
	var all []int
	for k := 0; k == 0 || k <= order && k <= 32; k++ {
		sum, product := new(big.Int), new(big.Int)
		for i := range small {
			if i-k >= 0 {
				sum.Add(sum, product.Mul(small[i], small[i-k]))
			}
		}
		if !sum.IsInt64() {
			panic("the model's sum has more bits than an int")
		}
		all = append(all, int(sum.Int64()))
	}
	return all
}

// unruly makes numbers that look unruly, from -most to most, always the same ones.
func unruly(many, most int) []int {
	x := make([]int, many)
	seed := uint64(many)*0x9e3779b97f4a7c15 + uint64(most)
	for i := range x {
		seed = seed*6364136223846793005 + 1442695040888963407
		x[i] = int(seed>>20)%(2*most+1) - most
	}
	return x
}

// filled is many times the same number.
func filled(many, number int) []int {
	return slices.Repeat([]int{number}, many)
}

// byTurns is many numbers, two by turns.
func byTurns(many, first, second int) []int {
	return slices.Repeat([]int{first, second}, many/2+1)[:many]
}

// samples are lists of numbers of many kinds, of at most MaxBlock numbers.
func samples() [][]int {
	all := [][]int{
		nil, {}, {0}, {1}, {-1}, {0, 0}, {0, 0, 7}, {7, 0, 0}, {1, 2, 3}, {3, 2, 1}, {-1, -2, -3}, {1, -1, 1, -1}, {5, 0, -5, 0, 5},
		{wide - 1}, {wide}, {-wide}, {-wide - 1}, {wide - 1, -wide}, {wide, -wide - 1}, {1, wide}, {-1, -wide - 1}, {-1, wide, -1},
		{edge}, {-edge}, {edge, -edge}, {-edge, -edge}, {edge, edge, edge}, {-1, edge, 1}, {1, -edge, -1}, {edge - 1, 1 - edge}, {-1, -1, -1, edge},
	}
	for _, many := range []int{1, 2, 3, 31, 32, 33, 34, 100, 576} {
		for _, most := range []int{1, 2, 127, 32768, wide - 1, wide, wide + 1, 1 << 32, edge - 1, edge} {
			all = append(all, unruly(many, most))
		}
	}
	return all
}

// equal tells lists that aren't the same.
func equal(t *testing.T, what string, got, want []int) {
	t.Helper()
	if !slices.Equal(got, want) {
		t.Errorf("%s: %v, not %v", what, got, want)
	}
}

// P9.1: the constant has the chapter's value.
func TestWidest(t *testing.T) {
	if Widest != 22 {
		t.Error(Widest)
	}
	if math.MinInt != -1<<signPlace {
		t.Error("a number's sign stands elsewhere")
	}
}

// P9.1: a number at and beside each edge, alone and among small ones, by hand.
func TestFitEdges(t *testing.T) {
	for _, c := range []struct{ number, want int }{
		{0, 0}, {1, 0}, {-1, 0}, {-2, 0},
		{4194302, 0}, {4194303, 0}, {4194304, 1}, {4194305, 1},
		{-4194303, 0}, {-4194304, 0}, {-4194305, 1}, {-4194306, 1},
		{8388606, 1}, {8388607, 1}, {8388608, 2}, {8388609, 2},
		{-8388607, 1}, {-8388608, 1}, {-8388609, 2}, {-8388610, 2},
		{1<<32 - 1, 10}, {1 << 32, 11}, {-1 << 32, 10}, {-1<<32 - 1, 11},
		{edge - 1, 18}, {edge, 19}, {1 - edge, 18}, {-edge, 18},
	} {
		for _, x := range [][]int{{c.number}, {1, c.number}, {c.number, 1}, {-1, c.number, 0}, {0, c.number, c.number}} {
			if got := Fit(x); got != c.want {
				t.Errorf("%v: %d, not %d", x, got, c.want)
			}
		}
	}
}

// P9.1: every power of 2 and what is beside it, below 0 too.
func TestFitPowers(t *testing.T) {
	for p := range 41 {
		for _, beside := range []int{-2, -1, 0, 1, 2} {
			number := 1<<p + beside
			if number > edge {
				continue
			}
			for _, x := range [][]int{{number}, {-number}, {number, -number}} {
				if got, want := Fit(x), modelFit(x); got != want {
					t.Errorf("%v: %d, not %d", x, got, want)
				}
			}
		}
	}
}

// P9.1: of many numbers the widest one tells it, wherever it stands; of both signs each one's own edge.
func TestFitMany(t *testing.T) {
	for _, x := range samples() {
		if got, want := Fit(x), modelFit(x); got != want {
			t.Errorf("%v: %d, not %d", x, got, want)
		}
	}
	for _, c := range []struct{ number, want int }{{wide - 1, 0}, {-wide, 0}, {wide, 1}, {-wide - 1, 1}, {edge, 19}, {-edge, 18}} {
		for _, place := range []int{0, 1, 4095, api.MaxBlock - 2, api.MaxBlock - 1} {
			x := make([]int, api.MaxBlock)
			x[place] = c.number
			if got := Fit(x); got != c.want {
				t.Errorf("%d at %d: %d, not %d", c.number, place, got, c.want)
			}
		}
	}
	// Sums or greatest ones of two signs mustn't be mixed up: neither of these hides the other.
	for _, c := range []struct {
		x    []int
		want int
	}{{[]int{-wide, wide - 1}, 0}, {[]int{-wide, wide}, 1}, {[]int{-wide - 1, wide - 1}, 1}, {[]int{-edge, edge - 1}, 18}, {[]int{-edge, edge}, 19}, {filled(api.MaxBlock, wide-1), 0}, {filled(api.MaxBlock, -wide), 0}} {
		if got := Fit(c.x); got != c.want {
			t.Errorf("%d numbers, first %d: %d, not %d", len(c.x), c.x[0], got, c.want)
		}
	}
}

// P9.1, R4: no numbers need none, and no list at all is an empty one.
func TestFitNothing(t *testing.T) {
	for _, x := range [][]int{nil, {}} {
		if got := Fit(x); got != 0 {
			t.Error(got)
		}
	}
}

// P9.2: the chapter's example, and others that are reckoned by hand.
func TestExamples(t *testing.T) {
	for _, c := range []struct {
		x     []int
		order int
		want  []int
	}{
		{[]int{1, 2, 3}, 3, []int{14, 8, 3, 0}},
		{[]int{1, 2, 3}, 2, []int{14, 8, 3}},
		{[]int{1, 2, 3}, 1, []int{14, 8}},
		{[]int{1, 2, 3}, 0, []int{14}},
		{[]int{1, 2, 3}, -1, []int{14}},
		{[]int{1, 2, 3}, 6, []int{14, 8, 3, 0, 0, 0, 0}},
		{[]int{5}, 2, []int{25, 0, 0}},
		{[]int{-5}, 1, []int{25, 0}},
		{[]int{2, 0, 0, -3}, 4, []int{13, 0, 0, -6, 0}},
		{[]int{1, -1, 1, -1}, 3, []int{4, -3, 2, -1}},
		{[]int{wide - 1, -wide}, 1, []int{(wide-1)*(wide-1) + wide*wide, -wide * (wide - 1)}},
		// Those that go down are rounded down, and no other way: -1 stays -1, and -3 is -2.
		{[]int{wide, -1}, 1, []int{(wide/2)*(wide/2) + 1, -wide / 2}},
		{[]int{wide, -3}, 1, []int{(wide/2)*(wide/2) + 4, -wide}},
		{[]int{wide, 3}, 1, []int{(wide/2)*(wide/2) + 1, wide / 2}},
		{[]int{-wide - 1, 1}, 1, []int{(wide/2 + 1) * (wide/2 + 1), 0}},
		{[]int{edge, -edge}, 1, []int{1<<42 + 1<<42, -1 << 42}},
		{[]int{-edge, -edge}, 1, []int{1<<44 + 1<<44, 1 << 44}},
		{[]int{edge, -1, 1}, 2, []int{1<<42 + 1, -1 << 21, 0}},
	} {
		if got := Of(c.x, c.order); !slices.Equal(got, c.want) {
			t.Errorf("%v by the order %d: %v, not %v", c.x, c.order, got, c.want)
		}
	}
}

// P9.2: numbers of all kinds by orders below, at and above how many there are.
func TestOf(t *testing.T) {
	for _, x := range samples() {
		for _, order := range []int{-1, 0, 1, 2, 3, len(x) - 2, len(x) - 1, len(x), len(x) + 1, 31, 32, 33} {
			if got, want := Of(x, order), modelOf(x, order); !slices.Equal(got, want) {
				t.Fatalf("%v by the order %d: %v, not %v", x, order, got, want)
			}
		}
	}
}

// P9.2: an order is held from 0 to MaxOrder, however far off it is.
func TestOrders(t *testing.T) {
	x := unruly(100, 1000)
	all := modelOf(x, api.MaxOrder)
	for order := range api.MaxOrder + 1 {
		equal(t, "an order that is one", Of(x, order), all[:order+1])
	}
	for _, order := range []int{math.MinInt, math.MinInt + 1, -1 << 32, -1<<32 + 5, -33, -32, -3, -2, -1} {
		equal(t, "an order below 0", Of(x, order), all[:1])
	}
	for _, order := range []int{33, 34, 64, 99, 100, 101, 256, 1 << 31, 1 << 32, 1<<32 + 5, math.MaxInt - 1, math.MaxInt} {
		equal(t, "an order above MaxOrder", Of(x, order), all)
	}
}

// P9.2, R4: of no numbers each sum is 0, and there are as many as of others.
func TestOfNothing(t *testing.T) {
	for _, x := range [][]int{nil, {}} {
		for _, c := range []struct{ order, many int }{{math.MinInt, 1}, {-1, 1}, {0, 1}, {1, 2}, {2, 3}, {31, 32}, {32, 33}, {33, 33}, {99, 33}, {math.MaxInt, 33}} {
			equal(t, "no numbers", Of(x, c.order), make([]int, c.many))
		}
	}
}

// P9.2: a lag at or beyond how many numbers there are has no place, and 0; the one just below has one place.
func TestNoSuchPlace(t *testing.T) {
	for many := 1; many <= api.MaxOrder+2; many++ {
		got := Of(filled(many, 3), api.MaxOrder)
		if len(got) != api.MaxOrder+1 {
			t.Fatalf("%d numbers: %d sums", many, len(got))
		}
		for k, sum := range got {
			if want := 9 * max(0, many-k); sum != want {
				t.Errorf("%d numbers, %d ahead: %d, not %d", many, k, sum, want)
			}
		}
	}
}

// P9.2: the greatest sums there are: MaxBlock numbers that are as wide as can be.
func TestMaxBlock(t *testing.T) {
	const many = api.MaxBlock
	for _, c := range []struct {
		what         string
		x            []int
		even, uneven int
	}{
		{"all -2^22", filled(many, -wide), wide * wide, wide * wide},
		{"all 2^22 - 1", filled(many, wide-1), (wide - 1) * (wide - 1), (wide - 1) * (wide - 1)},
		{"all 2^22", filled(many, wide), wide / 2 * wide / 2, wide / 2 * wide / 2},
		{"all 2^40", filled(many, edge), 1 << 42, 1 << 42},
		{"all -2^40", filled(many, -edge), 1 << 44, 1 << 44},
		{"2^40 and -2^40 by turns", byTurns(many, edge, -edge), 1 << 42, -1 << 42},
	} {
		got := Of(c.x, api.MaxOrder)
		for k, sum := range got {
			want := (many - k) * c.even
			if k%2 == 1 {
				want = (many - k) * c.uneven
			}
			if sum != want {
				t.Errorf("%s, %d ahead: %d, not %d", c.what, k, sum, want)
			}
		}
	}
	for _, most := range []int{1 << 15, edge} {
		x := unruly(many, most)
		equal(t, "MaxBlock unruly numbers", Of(x, api.MaxOrder), modelOf(x, api.MaxOrder))
	}
}

// P9.3: none is further from 0 than the first one.
func TestNoneFurther(t *testing.T) {
	lists := append(samples(), filled(api.MaxBlock, -edge), byTurns(api.MaxBlock, -wide, wide-1), unruly(api.MaxBlock, edge))
	for _, x := range lists {
		all := Of(x, api.MaxOrder)
		for k, sum := range all {
			if sum > all[0] || sum < -all[0] {
				t.Errorf("%d numbers, %d ahead: %d, but %d first", len(x), k, sum, all[0])
			}
		}
	}
}

// P9.3: numbers turned about have the same sums.
func TestTurnedAbout(t *testing.T) {
	for _, x := range append(samples(), unruly(api.MaxBlock, edge)) {
		about := slices.Clone(x)
		slices.Reverse(about)
		equal(t, "turned about", Of(about, api.MaxOrder), Of(x, api.MaxOrder))
		if Fit(about) != Fit(x) {
			t.Errorf("%v turned about: %d, not %d", x, Fit(about), Fit(x))
		}
	}
}

// P9.3: zeros ahead or behind, or both, change no sum.
func TestZerosBeside(t *testing.T) {
	for _, x := range samples() {
		want := Of(x, api.MaxOrder)
		for _, many := range []int{1, 2, 31, 32, 33, 500} {
			zeros := make([]int, many)
			equal(t, "zeros ahead", Of(slices.Concat(zeros, x), api.MaxOrder), want)
			equal(t, "zeros behind", Of(slices.Concat(x, zeros), api.MaxOrder), want)
			equal(t, "zeros on both sides", Of(slices.Concat(zeros, x, zeros), api.MaxOrder), want)
		}
	}
}

// R5: what is handed in is not changed, even where numbers go down; what is answered is memory of its own.
func TestHandedIn(t *testing.T) {
	for _, most := range []int{100, edge} {
		x := unruly(50, most)
		kept := slices.Clone(x)
		first := Of(x, api.MaxOrder)
		want := slices.Clone(first)
		for i := range first {
			first[i] = 99
		}
		equal(t, "what was handed in", x, kept)
		equal(t, "the same once more", Of(x, api.MaxOrder), want)
		Fit(x)
		equal(t, "what was handed in", x, kept)
	}
}

// R1: of numbers from further off, and of more than MaxBlock, the calls end; Fit is still the least that does.
func TestFarNumbers(t *testing.T) {
	for _, c := range []struct{ number, want int }{
		{edge + 1, 19}, {-edge - 1, 19}, {math.MaxInt, 41}, {math.MaxInt - 1, 41}, {math.MinInt, 41}, {math.MinInt + 1, 41}, {1 << 62, 41}, {-1 << 62, 40},
	} {
		if got := Fit([]int{c.number, 0}); got != c.want {
			t.Errorf("%d: %d, not %d", c.number, got, c.want)
		}
	}
	for _, many := range []int{8, api.MaxBlock + 1, 1 << 18} {
		if got := Of(byTurns(many, math.MinInt, math.MaxInt), math.MaxInt); len(got) != api.MaxOrder+1 {
			t.Errorf("%d numbers: %d sums", many, len(got))
		}
	}
}

// P9.1 to P9.3: any numbers from -2^40 to 2^40, by any order.
func FuzzOf(f *testing.F) {
	f.Add([]byte{}, 2)
	f.Add([]byte{1, 0, 0, 0, 0, 0, 2, 0, 0, 0, 0, 0, 3, 0, 0, 0, 0, 0}, 3)
	f.Add([]byte{0, 0, 0, 0, 0, 1, 255, 255, 255, 255, 255, 254}, 99)
	f.Add([]byte{0, 0, 64, 0, 0, 0, 255, 255, 191, 255, 255, 255}, -1)
	f.Fuzz(func(t *testing.T, b []byte, order int) {
		var x []int
		for ; len(b) >= 6 && len(x) < 300; b = b[6:] {
			number := int(int64(binary.LittleEndian.Uint64(append([]byte{0, 0, 0}, b[:5]...))) >> 23)
			// The last byte tells how wide the number is, so that narrow ones are as many as wide ones.
			x = append(x, (number|int(b[5]>>7))>>(b[5]%41))
		}
		if got, want := Fit(x), modelFit(x); got != want {
			t.Fatalf("%v: %d, not %d", x, got, want)
		}
		got := Of(x, order)
		if want := modelOf(x, order); !slices.Equal(got, want) {
			t.Fatalf("%v by the order %d: %v, not %v", x, order, got, want)
		}
		slices.Reverse(x)
		if about := Of(append(x, 0), order); !slices.Equal(got, about) {
			t.Fatalf("%v by the order %d: %v, not %v", x, order, about, got)
		}
	})
}
