package parts

import (
	"encoding/binary"
	"math"
	"math/big"
	"slices"
	"testing"

	"serinette/api"
	"serinette/cost"
)

// The ends of what is near, written out.
const (
	least    = -8589934592
	greatest = 8589934591
)

// far are numbers that aren't near.
var far = []int{math.MinInt, -1 << 62, least - 1, greatest + 1, 1 << 62, math.MaxInt}

// modelCuts is what Cuts must tell, by the chapter's words, in numbers of any size.
func modelCuts(many, order, o int) []int {
	if many < 0 || order < 0 || o < 0 || o > 15 {
		return nil
	}
	block := new(big.Int).Add(big.NewInt(int64(many)), big.NewInt(int64(order)))
	share, rest := new(big.Int).DivMod(block, big.NewInt(1<<o), new(big.Int))
	if rest.Sign() != 0 || share.Cmp(big.NewInt(int64(order))) <= 0 {
		return nil
	}
	cuts := []int{int(share.Sub(share, big.NewInt(int64(order))).Int64())}
	for len(cuts) < 1<<o {
		cuts = append(cuts, cuts[0]+order)
	}
	return cuts
}

// modelBits is what Bits must tell, by the chapter's words.
func modelBits(l []int, order int, p api.Plan) int {
	cuts := modelCuts(len(l), order, p.Order)
	if cuts == nil || len(cuts) != len(p.Parts) {
		return -1
	}
	most, each := 14, 4
	if p.Wide {
		most, each = 30, 5
	}
	sum, from := 6, 0
	for i, part := range p.Parts {
		bits := cost.Each(l[from:from+cuts[i]], part)
		if bits == -1 || !part.Raw && (part.K < 0 || part.K > most) {
			return -1
		}
		sum, from = sum+each+bits, from+cuts[i]
	}
	return sum
}

// planned is a plan, and how many bits it has.
type planned struct {
	plan api.Plan
	bits int
}

// modelPlans are the plans that Best chooses from, in order: each part is asked for by itself.
func modelPlans(l []int, order, most int, wide bool) []planned {
	var all []planned
	for _, w := range []bool{false, true} {
		greatestK := 14
		if w {
			greatestK = 30
		}
		for o := 0; o <= most && (wide || !w); o++ {
			cuts := modelCuts(len(l), order, o)
			if cuts == nil {
				continue
			}
			p, from := api.Plan{Wide: w, Order: o}, 0
			for _, many := range cuts {
				part, _, _ := cost.Best(l[from:from+many], greatestK)
				p.Parts = append(p.Parts, part)
				from += many
			}
			all = append(all, planned{p, modelBits(l, order, p)})
		}
	}
	return all
}

// first is the first one of plans that have fewest bits.
func first(all []planned) planned {
	chosen := all[0]
	for _, p := range all {
		if p.bits < chosen.bits {
			chosen = p
		}
	}
	return chosen
}

// same tells whether two plans are alike.
func same(a, b api.Plan) bool {
	return a.Wide == b.Wide && a.Order == b.Order && slices.Equal(a.Parts, b.Parts)
}

// best holds an answer against the plan that it must be, and its bits against those that Bits tells.
func best(t *testing.T, l []int, order, most int, wide bool, want api.Plan, many int) {
	t.Helper()
	p, got, e := Best(l, order, most, wide)
	if !same(p, want) || got != many || e != api.OK {
		t.Fatalf("%v, %d, %d, %v: %v, %d, %v; not %v, %d", l, order, most, wide, p, got, e, want, many)
	}
	if bits := Bits(l, order, p); bits != got {
		t.Fatalf("%v, %d, %d, %v: %d bits, of which Bits tells %d", l, order, most, wide, got, bits)
	}
}

// model holds all answers, by each most, against the models'.
func model(t *testing.T, l []int, order int) {
	t.Helper()
	for most := range 9 {
		for _, wide := range []bool{false, true} {
			all := modelPlans(l, order, most, wide)
			chosen := first(all)
			best(t, l, order, most, wide, chosen.plan, chosen.bits)
			for _, p := range all {
				bits(t, l, order, p.plan, p.bits)
			}
		}
	}
}

// bits holds what Bits tells against what it must.
func bits(t *testing.T, l []int, order int, p api.Plan, want int) {
	t.Helper()
	if got := Bits(l, order, p); got != want {
		t.Errorf("%v, %d, %v: %d bits, not %d", l, order, p, got, want)
	}
}

// cuts holds what Cuts tells against what it must.
func cuts(t *testing.T, many, order, o int, want ...int) {
	t.Helper()
	if got := Cuts(many, order, o); !slices.Equal(got, want) {
		t.Errorf("%d, %d, %d: %v, not %v", many, order, o, got, want)
	}
}

// byK are parts that are all written by the same k.
func byK(many, k int) []api.Part {
	return slices.Repeat([]api.Part{{K: k}}, many)
}

// raws are parts that are all written with Raw, with so many bits each.
func raws(many, k int) []api.Part {
	return slices.Repeat([]api.Part{{K: k, Raw: true}}, many)
}

// filled is many times the same number.
func filled(many, n int) []int {
	return slices.Repeat([]int{n}, many)
}

// unruly makes numbers that look unruly, from -most to most, always the same ones.
func unruly(many, most int) []int {
	x := make([]int, many)
	state := uint64(many)<<40 ^ uint64(most)
	for i := range x {
		state = state*0x5851f42d4c957f2d + 0x14057b7ef767814f
		x[i] = int(state>>20)%(2*most+1) - most
	}
	return x
}

// uneven is unruly numbers of which each some have another size: from 0 up to so many bits.
func uneven(many, some, sizes int) []int {
	x := unruly(many, 1<<sizes-1)
	for i := range x {
		x[i] >>= (i / some * 7) % (sizes + 1)
	}
	return x
}

// P14.1, P14.2: the chapter's example.
func TestExamples(t *testing.T) {
	if Narrow != 14 || Wide != 30 {
		t.Error(Narrow, Wide)
	}
	// Two zeros have 2 bits by k 0; folded 100 is 200: by k 7 two have 18.
	l := []int{0, 0, 100, 100}
	two := api.Plan{Order: 1, Parts: []api.Part{{K: 0}, {K: 7}}}
	best(t, l, 0, 1, false, two, 6+4+2+4+18)
	best(t, l, 0, 1, true, two, 34)
	// In one part by k 6: two zeros have 7 bits each, and the others 10.
	best(t, l, 0, 0, false, api.Plan{Parts: byK(1, 6)}, 6+4+34)
	// In four parts there are 8 bits more ahead of the same numbers.
	best(t, l, 0, 2, false, two, 34)
	bits(t, l, 0, api.Plan{Order: 2, Parts: []api.Part{{}, {}, {K: 7}, {K: 7}}}, 42)
	// With the order 2 the first of two parts has one number alone: 0, of 1 bit; by k 6 the others have 7, 10 and 10, by k 7 8, 9 and 9.
	best(t, l, 2, 1, false, api.Plan{Order: 1, Parts: []api.Part{{}, {K: 7}}}, 6+4+1+4+26)
	bits(t, l, 2, api.Plan{Order: 1, Parts: []api.Part{{}, {K: 6}}}, 6+4+1+4+27)
	best(t, []int{0, 100, 100, 100}, 2, 1, false, api.Plan{Order: 1, Parts: []api.Part{{}, {K: 7}}}, 6+4+1+4+27)
}

// P14.1: how a block is cut, at the edges that the chapter names.
func TestCuts(t *testing.T) {
	cuts(t, 8, 0, 0, 8)
	cuts(t, 8, 0, 1, 4, 4)
	cuts(t, 8, 0, 2, 2, 2, 2, 2)
	cuts(t, 8, 0, 3, 1, 1, 1, 1, 1, 1, 1, 1)
	cuts(t, 8, 0, 4)
	// The first one has the share less the order, each other one the share.
	cuts(t, 7, 1, 1, 3, 4)
	cuts(t, 7, 1, 2, 1, 2, 2, 2)
	cuts(t, 28, 4, 2, 4, 8, 8, 8)
	cuts(t, 4064, 32, 2, 992, 1024, 1024, 1024)
	// Many, or an order, below 0, though the block were a multiple, and its share above the order.
	cuts(t, -1, 9, 0)
	cuts(t, -8, 0, 0)
	cuts(t, -8, 16, 1)
	cuts(t, 8, -1, 0)
	cuts(t, 16, -8, 1)
	cuts(t, 9, -1, 3)
	cuts(t, math.MinInt, 0, 0)
	cuts(t, 8, math.MinInt, 0)
	cuts(t, math.MinInt, math.MinInt, 0)
	cuts(t, -1, -1, -1)
	// An o that is none.
	for _, o := range []int{math.MinInt, -64, -16, -1, 16, 17, 31, 32, 63, 64, 1 << 32, math.MaxInt} {
		cuts(t, 8, 0, o)
		cuts(t, 1<<40, 0, o)
		cuts(t, 0, 0, o)
	}
	cuts(t, 32768, 0, 15, filled(32768, 1)...)
	cuts(t, 65535, 1, 15, append([]int{1}, filled(32767, 2)...)...)
	cuts(t, 65536, 0, 15, filled(32768, 2)...)
	cuts(t, 65536, 0, 16)
	cuts(t, 32767, 1, 15)
	cuts(t, 32769, 0, 15)
	// A block that is no multiple.
	cuts(t, 7, 0, 1)
	cuts(t, 6, 0, 2)
	cuts(t, 8, 1, 1)
	cuts(t, 65535, 0, 1)
	cuts(t, 65535, 0, 0, 65535)
	// A share that is just above the order, just the order, and below it.
	cuts(t, 4, 2, 1, 1, 3)
	cuts(t, 2, 2, 1)
	cuts(t, 0, 2, 1)
	cuts(t, 34, 32, 1, 1, 33)
	cuts(t, 32, 32, 1)
	cuts(t, 30, 32, 1)
	cuts(t, 96, 32, 2)
	cuts(t, 100, 32, 2, 1, 33, 33, 33)
	cuts(t, 1, 1000, 0, 1)
	// No numbers at all can't be cut: the share is the order at most.
	for order := range 40 {
		for o := range 17 {
			cuts(t, 0, order, o)
		}
	}
}

// P14.1: blocks that have too many numbers for an int.
func TestCutsHuge(t *testing.T) {
	cuts(t, math.MaxInt, 0, 0, math.MaxInt)
	cuts(t, math.MaxInt, 1, 0, math.MaxInt)
	cuts(t, math.MaxInt, math.MaxInt, 0, math.MaxInt)
	cuts(t, 1, math.MaxInt, 0, 1)
	cuts(t, 0, math.MaxInt, 0)
	cuts(t, math.MaxInt, 1, 1, 1<<62-1, 1<<62)
	cuts(t, math.MaxInt, math.MaxInt, 1)
	cuts(t, math.MaxInt, math.MaxInt-2, 1, 1, math.MaxInt-1)
	cuts(t, math.MaxInt-1, math.MaxInt-3, 1, 1, math.MaxInt-2)
	cuts(t, 1, math.MaxInt, 1)
	cuts(t, 1, math.MaxInt, 15)
	many := Cuts(math.MaxInt, 1, 15)
	if len(many) != 32768 || many[0] != 1<<48-1 || many[1] != 1<<48 || many[32767] != 1<<48 {
		t.Error(len(many))
	}
}

// P14.1, P14.3: all small blocks by all o; the parts' lengths together are the block less the order, and none has no number.
func TestCutsModel(t *testing.T) {
	for many := -2; many <= 150; many++ {
		for order := -2; order <= 40; order++ {
			for o := -2; o <= 18; o++ {
				got, want := Cuts(many, order, o), modelCuts(many, order, o)
				if !slices.Equal(got, want) {
					t.Fatalf("%d, %d, %d: %v, not %v", many, order, o, got, want)
				}
				sum := 0
				for _, some := range got {
					if some < 1 {
						t.Fatalf("%d, %d, %d: %v", many, order, o, got)
					}
					sum += some
				}
				if len(got) > 0 && sum != many {
					t.Fatalf("%d, %d, %d: %d numbers", many, order, o, sum)
				}
			}
		}
	}
}

// P14.1: bits of plans that are reckoned by hand.
func TestBits(t *testing.T) {
	// Folded these are 6, 20, 9, 0; their width is 5: by k 3 there are 19 bits, by k 2 20.
	l := []int{3, 10, -5, 0}
	bits(t, l, 0, api.Plan{Parts: byK(1, 3)}, 6+4+19)
	bits(t, l, 0, api.Plan{Wide: true, Parts: byK(1, 3)}, 6+5+19)
	bits(t, l, 0, api.Plan{Parts: raws(1, 5)}, 6+4+5+20)
	bits(t, l, 0, api.Plan{Wide: true, Parts: raws(1, 5)}, 6+5+5+20)
	// By k 2 the first two have 4 and 8 bits, by k 1 the others 6 and 2.
	two := api.Plan{Order: 1, Parts: []api.Part{{K: 2}, {K: 1}}}
	bits(t, l, 0, two, 6+4+12+4+8)
	bits(t, l, 4, two, -1)
	bits(t, l, 0, api.Plan{Wide: true, Order: 1, Parts: two.Parts}, 6+5+12+5+8)
	bits(t, l, 0, api.Plan{Order: 1, Parts: []api.Part{{K: 5, Raw: true}, {K: 1}}}, 6+4+15+4+8)
	bits(t, l, 0, api.Plan{Wide: true, Order: 1, Parts: []api.Part{{K: 2}, {K: 4, Raw: true}}}, 6+5+12+5+13)
	// With the order 2 the first part has one number, of 4 bits by k 2; by k 1 the others have 12, 6 and 2.
	bits(t, l, 2, two, 6+4+4+4+20)
	bits(t, l, 2, api.Plan{Order: 1, Parts: []api.Part{{K: 3, Raw: true}, {K: 6, Raw: true}}}, 6+4+8+4+23)
	// In four parts: 7 bits by k 0, 6 by k 3, 10 with Raw, 1 by k 0.
	four := []api.Part{{}, {K: 3}, {K: 5, Raw: true}, {}}
	bits(t, l, 0, api.Plan{Order: 2, Parts: four}, 6+16+7+6+10+1)
	bits(t, l, 0, api.Plan{Wide: true, Order: 2, Parts: four}, 6+20+7+6+10+1)
	// Raw may have more bits than the greatest k, wide or not.
	bits(t, []int{1 << 20}, 0, api.Plan{Parts: raws(1, 22)}, 6+4+5+22)
	bits(t, []int{1 << 20}, 0, api.Plan{Wide: true, Parts: raws(1, 31)}, 6+5+5+31)
	bits(t, []int{0}, 0, api.Plan{Parts: raws(1, 0)}, 6+4+5)
	bits(t, []int{greatest, least}, 0, api.Plan{Parts: byK(1, 14)}, 6+4+2*(1<<20-1+15))
}

// P14.1: plans that can't be: of an Order that can't cut the block, or with too few parts, or too many.
func TestBitsCantCut(t *testing.T) {
	zeros := filled(16, 0)
	for _, wide := range []bool{false, true} {
		for _, c := range []struct{ many, order, o int }{{6, 0, 2}, {7, 0, 1}, {8, 1, 1}, {2, 2, 1}, {0, 2, 1}, {12, 4, 2}, {0, 0, 0}, {0, 3, 0}, {8, -1, 0}, {9, -1, 3}, {8, 0, 4}} {
			bits(t, zeros[:c.many], c.order, api.Plan{Wide: wide, Order: c.o, Parts: byK(1<<c.o, 0)}, -1)
			bits(t, zeros[:c.many], c.order, api.Plan{Wide: wide, Order: c.o, Parts: raws(1<<c.o, 0)}, -1)
			bits(t, zeros[:c.many], c.order, api.Plan{Wide: wide, Order: c.o}, -1)
			bits(t, zeros[:c.many], c.order, api.Plan{Wide: wide, Order: c.o, Parts: []api.Part{}}, -1)
		}
		for _, o := range []int{math.MinInt, -1, 16, 17, 64, math.MaxInt} {
			for many := range 3 {
				bits(t, zeros, 0, api.Plan{Wide: wide, Order: o, Parts: byK(many, 0)}, -1)
			}
		}
		for o := range 5 {
			for many := range 18 {
				want := -1
				if many == 1<<o {
					want = 6 + 4*many + 16
					if wide {
						want += many
					}
				}
				bits(t, zeros, 0, api.Plan{Wide: wide, Order: o, Parts: byK(many, 0)}, want)
			}
		}
		// The greatest Order that four bits tell, and one more.
		long := filled(65536, 0)
		each := 4
		if wide {
			each = 5
		}
		if got := Bits(long, 0, api.Plan{Wide: wide, Order: 15, Parts: byK(32768, 1)}); got != 6+32768*each+2*65536 {
			t.Error(got)
		}
		if got := Bits(long, 0, api.Plan{Wide: wide, Order: 16, Parts: byK(65536, 1)}); got != -1 {
			t.Error(got)
		}
	}
	// A share just above the order can be, and so can an order that no predictor has.
	bits(t, zeros[:4], 2, api.Plan{Order: 1, Parts: byK(2, 0)}, 6+8+4)
	bits(t, zeros[:1], 1000, api.Plan{Parts: byK(1, 0)}, 6+4+1)
	bits(t, zeros[:1], math.MaxInt, api.Plan{Parts: byK(1, 0)}, 6+4+1)
}

// P14.1: each K, and such that are none, wide and not, in each part.
func TestBitsK(t *testing.T) {
	// The width of the last two is 5, of the first two 1.
	l := []int{0, -1, 10, -16}
	all := []int{math.MinInt, -1 << 32, -31, 63, 64, 1 << 32, 1<<32 + 3, math.MaxInt}
	for k := -2; k <= 40; k++ {
		all = append(all, k)
	}
	for _, wide := range []bool{false, true} {
		most, each := Narrow, 4
		if wide {
			most, each = Wide, 5
		}
		for _, k := range all {
			one, head, tail := -1, -1, -1
			if k >= 0 && k <= most {
				byHead, byTail := 2+2*k+1>>k, 2+2*k+20>>k+31>>k
				one = 6 + each + byHead + byTail
				head, tail = 6+2*each+byHead+13, 6+2*each+4+byTail
			}
			bits(t, l, 0, api.Plan{Wide: wide, Parts: byK(1, k)}, one)
			// By k 3 the last two have 13 bits, by k 1 the first two 4.
			bits(t, l, 0, api.Plan{Wide: wide, Order: 1, Parts: []api.Part{{K: k}, {K: 3}}}, head)
			bits(t, l, 0, api.Plan{Wide: wide, Order: 1, Parts: []api.Part{{K: 1}, {K: k}}}, tail)
			one, head, tail = -1, -1, -1
			if k >= 1 && k <= 31 {
				head = 6 + 2*each + 5 + 2*k + 13
			}
			if k >= 5 && k <= 31 {
				one, tail = 6+each+5+4*k, 6+2*each+4+5+2*k
			}
			bits(t, l, 0, api.Plan{Wide: wide, Parts: raws(1, k)}, one)
			bits(t, l, 0, api.Plan{Wide: wide, Order: 1, Parts: []api.Part{{K: k, Raw: true}, {K: 3}}}, head)
			bits(t, l, 0, api.Plan{Wide: wide, Order: 1, Parts: []api.Part{{K: 1}, {K: k, Raw: true}}}, tail)
		}
	}
}

// misplaced hands each place of near numbers one that isn't near.
func misplaced(each func(l []int)) {
	for _, n := range far {
		for _, many := range []int{1, 2, 4, 16} {
			for place := range many {
				l := unruly(many, 100)
				l[place] = n
				each(l)
			}
		}
	}
}

// P14.1: no plan can be of numbers of which one isn't near, wherever it stands; those at the ends of what is near are told of.
func TestBitsNear(t *testing.T) {
	misplaced(func(l []int) {
		for o := 0; 1<<o <= len(l); o++ {
			for _, wide := range []bool{false, true} {
				for _, k := range []int{-1, 0, 1, 14, 30, 31} {
					bits(t, l, 0, api.Plan{Wide: wide, Order: o, Parts: byK(1<<o, k)}, -1)
					bits(t, l, 0, api.Plan{Wide: wide, Order: o, Parts: raws(1<<o, k)}, -1)
				}
			}
		}
	})
	for _, n := range []int{least, greatest} {
		higher := 1<<34 - 1
		if n > 0 {
			higher--
		}
		l := []int{0, n}
		bits(t, l, 0, api.Plan{Order: 1, Parts: byK(2, 0)}, 6+8+1+higher+1)
		bits(t, l, 0, api.Plan{Wide: true, Parts: byK(1, 30)}, 6+5+31+31+15)
		bits(t, l, 0, api.Plan{Parts: raws(1, 31)}, -1)
		bits(t, l, 0, api.Plan{Parts: raws(1, 34)}, -1)
	}
}

// P14.1: the bits of plans of any kind.
func TestBitsModel(t *testing.T) {
	state := uint64(1)
	below := func(n int) int {
		state = state*0x5851f42d4c957f2d + 0x14057b7ef767814f
		return int(state>>33) % n
	}
	could := 0
	for range 20000 {
		l := unruly(below(40), 1<<below(12))
		order := below(4)
		p := api.Plan{Wide: below(2) == 1, Order: below(4)}
		for range max(0, 1<<p.Order-below(20)/19+below(20)/19) {
			part := api.Part{K: below(14), Raw: below(5) == 0}
			if below(30) == 0 {
				part.K = below(36) - 2
			}
			if part.Raw {
				part.K = 8 + below(24)
			}
			p.Parts = append(p.Parts, part)
		}
		want := modelBits(l, order, p)
		bits(t, l, order, p, want)
		if want >= 0 {
			could++
		}
	}
	if could < 1000 {
		t.Error(could)
	}
}

// P14.2: each error by itself, and any together: the first one is told, with nothing else.
func TestErrors(t *testing.T) {
	lists := []struct {
		l []int
		e api.Errno
	}{{nil, api.ErrShort}, {[]int{}, api.ErrShort}, {[]int{0}, api.OK}, {[]int{5, -7, 0, 100}, api.OK}, {[]int{least, greatest}, api.OK}}
	misplaced(func(l []int) {
		lists = append(lists, struct {
			l []int
			e api.Errno
		}{l, api.ErrRange})
	})
	for _, x := range lists {
		for _, order := range []int{math.MinInt, -33, -1, 0, 1, 31, 32, 33, 64, math.MaxInt} {
			for _, most := range []int{math.MinInt, -8, -1, 0, 1, 7, 8, 9, 15, math.MaxInt} {
				want := x.e
				if order < 0 || order > 32 || most < 0 || most > 8 {
					want = api.ErrArg
				}
				for _, wide := range []bool{false, true} {
					p, many, e := Best(x.l, order, most, wide)
					if e != want {
						t.Fatalf("%v, %d, %d, %v: %v, not %v", x.l, order, most, wide, e, want)
					}
					if e != api.OK && (p.Wide || p.Order != 0 || len(p.Parts) != 0 || many != 0) {
						t.Fatalf("%v, %d, %d, %v: %v, %d with %v", x.l, order, most, wide, p, many, e)
					}
				}
			}
		}
	}
}

// P14.2: of two Orders by which there are as few bits it is the lesser one; by one bit fewer it is the greater one.
func TestFirstOrder(t *testing.T) {
	// Folded 5 is 10: by k 2 two zeros have 6 bits and the others 10; in two parts, by k 0 and 2, there are 2 and 10, and four more ahead.
	l := []int{0, 0, 5, 5}
	bits(t, l, 0, api.Plan{Order: 1, Parts: []api.Part{{}, {K: 2}}}, 26)
	best(t, l, 0, 0, false, api.Plan{Parts: byK(1, 2)}, 26)
	best(t, l, 0, 1, false, api.Plan{Parts: byK(1, 2)}, 26)
	best(t, l, 0, 8, true, api.Plan{Parts: byK(1, 2)}, 26)
	// Wide there are five more: one part has fewer bits, but none has as few as not wide.
	bits(t, l, 0, api.Plan{Wide: true, Order: 1, Parts: []api.Part{{}, {K: 2}}}, 28)
	// Folded 6 is 12: by k 2 the others have 11, by k 3 10, and the zeros 6 or 8.
	l = []int{0, 0, 5, 6}
	best(t, l, 0, 0, false, api.Plan{Parts: byK(1, 2)}, 27)
	best(t, l, 0, 1, false, api.Plan{Order: 1, Parts: []api.Part{{}, {K: 3}}}, 26)
	best(t, l, 0, 8, true, api.Plan{Order: 1, Parts: []api.Part{{}, {K: 3}}}, 26)
}

// P14.2: where a plan that is wide has as few bits as one that isn't it is that one; where it has one fewer it is the wide one.
func TestFirstWide(t *testing.T) {
	// Folded these are 3 times 2^14, 4 times and 5 times.
	for _, c := range []struct{ n, narrow, wide, k int }{{24576, 18, 17, 15}, {32768, 19, 18, 15}, {40960, 20, 18, 15}} {
		narrow, wide := api.Plan{Parts: byK(1, 14)}, api.Plan{Wide: true, Parts: byK(1, c.k)}
		bits(t, []int{c.n}, 0, narrow, 6+4+c.narrow)
		bits(t, []int{c.n}, 0, wide, 6+5+c.wide)
		best(t, []int{c.n}, 0, 8, false, narrow, 6+4+c.narrow)
		if c.wide+1 < c.narrow {
			best(t, []int{c.n}, 0, 8, true, wide, 6+5+c.wide)
		} else {
			best(t, []int{c.n}, 0, 8, true, narrow, 6+4+c.narrow)
		}
	}
}

// P14.2: of all plans of lists of few numbers, among which there are many with as few bits, the first one is told.
func TestFirst(t *testing.T) {
	few := []int{0, -1, 5, 6, -40, 1000, 24576, 32768, 1 << 24}
	orders, wides, across := 0, 0, 0
	for i := range len(few) * len(few) * len(few) * len(few) {
		l := []int{few[i%9], few[i/9%9], few[i/81%9], few[i/729]}
		all := modelPlans(l, 0, 2, true)
		chosen := first(all)
		best(t, l, 0, 2, true, chosen.plan, chosen.bits)
		for _, p := range all {
			switch {
			case p.bits != chosen.bits || same(p.plan, chosen.plan):
			case p.plan.Wide == chosen.plan.Wide:
				orders++
			case p.plan.Order == chosen.plan.Order:
				wides++
			case p.plan.Order < chosen.plan.Order:
				across++
			}
		}
		chosen = first(modelPlans(l, 0, 2, false))
		best(t, l, 0, 2, false, chosen.plan, chosen.bits)
	}
	if orders < 10 || wides < 10 || across < 10 {
		t.Error(orders, wides, across)
	}
}

// P14.2: a most by which the block can't be cut is as if it were the greatest one by which it can.
func TestMost(t *testing.T) {
	for _, c := range []struct{ many, order, finest int }{{1, 0, 0}, {2, 0, 1}, {3, 0, 0}, {7, 1, 2}, {6, 2, 1}, {2, 2, 0}, {96, 0, 5}, {64, 32, 1}, {32, 32, 0}, {34, 32, 1}, {100, 32, 2}, {96, 32, 1}, {255, 0, 0}, {254, 2, 6}, {256, 0, 8}, {512, 0, 8}, {510, 2, 7}, {511, 1, 8}} {
		// In every other one of the finest parts each number is great, in the others none is: so these parts have fewest bits.
		share := (c.many + c.order) >> c.finest
		l := make([]int, c.many)
		for i := range l {
			l[i] = (i + c.order) / share % 2 << 13
		}
		for most := range 9 {
			p, _, e := Best(l, c.order, most, false)
			if most >= c.finest && p.Order != c.finest || len(p.Parts) != 1<<p.Order || e != api.OK {
				t.Errorf("%v, %d: %v, %v", c, most, p, e)
			}
		}
		model(t, l, c.order)
	}
}

// P14.2: some parts' best way is Raw, that of others a k; Raw may have more bits than the greatest k.
func TestRawInSome(t *testing.T) {
	// Eight zeros have 5 bits with Raw and 8 by k 0; folded -8 is 15: eight of them have 37 with Raw and 40 by k 3.
	l := slices.Concat(filled(8, 0), []int{0, 0, 0, 0, 0, 0, 0, 5}, filled(8, -8), []int{1, -1, 1, -1, 1, -1, 1, 8})
	// Folded 5 is 10: by k 0 these have 18 bits, by k 1 21. Folded 1, -1 and 8 are 2, 1 and 16: by k 1 they have 4*3 + 3*2 + 10.
	want := api.Plan{Order: 2, Parts: []api.Part{{Raw: true}, {}, {K: 4, Raw: true}, {K: 1}}}
	bits(t, l, 0, want, 6+16+5+18+37+28)
	best(t, l, 0, 2, false, want, 110)
	// Folded 2^20 is 2^21: not wide a k from 14 on has no fewer bits than Raw, wide k 20 has.
	l = []int{0, 0, 1 << 20, 1 << 20}
	best(t, l, 0, 1, false, api.Plan{Order: 1, Parts: []api.Part{{}, {K: 22, Raw: true}}}, 6+8+2+49)
	best(t, l, 0, 1, true, api.Plan{Wide: true, Order: 1, Parts: []api.Part{{}, {K: 20}}}, 6+10+2+46)
	best(t, filled(6, -1<<30), 0, 0, true, api.Plan{Parts: raws(1, 31)}, 6+4+5+186)
}

// P14.2: where the best k is above Narrow it is told if wide is set, and else Narrow, or Raw.
func TestAboveNarrow(t *testing.T) {
	for k := 12; k <= 30; k++ {
		// Folded this is 2^(k+1) + 2: by k there are k + 3 bits, by each other one as many or more; the width is k + 2.
		n := 1<<k + 1
		l := filled(3, n)
		narrow := api.Plan{Parts: byK(1, k)}
		bitsNarrow := 6 + 4 + 3*(k+3)
		if k > 14 {
			narrow = api.Plan{Parts: byK(1, 14)}
			bitsNarrow = 6 + 4 + 3*(1<<(k-13)+15)
			if raw := 6 + 4 + 5 + 3*(k+2); k+2 <= 31 && raw < bitsNarrow {
				narrow, bitsNarrow = api.Plan{Parts: raws(1, k+2)}, raw
			}
		}
		best(t, l, 0, 0, false, narrow, bitsNarrow)
		if k > 14 {
			best(t, l, 0, 0, true, api.Plan{Wide: true, Parts: byK(1, k)}, 6+5+3*(k+3))
		} else {
			best(t, l, 0, 0, true, narrow, bitsNarrow)
		}
	}
	// One part alone has a k above Narrow: where Raw has one bit more than that, it is not wide, as each of the others would have one more too.
	l := slices.Concat(filled(12, 0), filled(4, 1<<27))
	raw := api.Plan{Order: 2, Parts: []api.Part{{}, {}, {}, {K: 29, Raw: true}}}
	best(t, l, 0, 2, false, raw, 6+16+12+5+4*29)
	best(t, l, 0, 2, true, raw, 155)
	bits(t, l, 0, api.Plan{Wide: true, Order: 2, Parts: []api.Part{{}, {}, {}, {K: 27}}}, 158)
	l = slices.Concat(filled(12, 0), filled(4, 1<<30))
	best(t, l, 0, 2, true, api.Plan{Wide: true, Order: 2, Parts: []api.Part{{}, {}, {}, {K: 30}}}, 6+20+12+4*33)
}

// P14.2: numbers of a width above Raw have no part with Raw, be there one or many of them.
func TestAboveRaw(t *testing.T) {
	for _, n := range []int{1 << 30, -1<<30 - 1, 1<<31 - 1, 1 << 31, -1 << 31, greatest, least} {
		for _, l := range [][]int{{n}, {0, n}, {n, 0}, filled(8, n), {0, 0, 0, 0, 0, 0, 0, n}} {
			for _, wide := range []bool{false, true} {
				p, _, e := Best(l, 0, 0, wide)
				if e != api.OK || p.Parts[0].Raw || p.Wide != wide {
					t.Errorf("%v, %v: %v, %v", l, wide, p, e)
				}
			}
			model(t, l, 0)
		}
	}
	best(t, []int{least, least}, 0, 1, false, api.Plan{Parts: byK(1, 14)}, 6+4+2*(1<<20-1+15))
	best(t, []int{least, least}, 0, 1, true, api.Plan{Wide: true, Parts: byK(1, 30)}, 6+5+2*(15+31))
	// The zeros that stand beside it may have Raw in a part of their own.
	l := slices.Concat(filled(8, 0), filled(8, greatest))
	best(t, l, 0, 1, true, api.Plan{Wide: true, Order: 1, Parts: []api.Part{{Raw: true}, {K: 30}}}, 6+10+5+8*(15+31))
}

// inputs are lists of near numbers: of one size, of many, and with all of them but some far from 0.
func inputs() [][]int {
	all := [][]int{{least}, {greatest}, {least, greatest}, {greatest, 0, 0, least}, filled(64, 0)}
	for _, many := range []int{1, 2, 3, 4, 7, 8, 30, 62, 63, 64, 256, 480} {
		for _, size := range []int{1, 3, 7, 13, 16, 22, 30, 33} {
			peak := unruly(many, 1<<(size/2))
			peak[many/2] = -1 << size
			all = append(all, unruly(many, 1<<size-1), uneven(many, 1, size), uneven(many, 8, size), peak)
		}
	}
	return all
}

// P14.1, P14.2: numbers of all sizes, by each order and each most, wide and not.
func TestModel(t *testing.T) {
	found := map[int]int{}
	for _, l := range inputs() {
		for _, order := range []int{0, 1, 2, 4, 32} {
			model(t, l, order)
			p, _, _ := Best(l, order, 8, true)
			found[p.Order]++
			if p.Wide {
				found[-1]++
			}
		}
	}
	for o := -1; o <= 5; o++ {
		if found[o] == 0 {
			t.Errorf("none by %d: %v", o, found)
		}
	}
}

// P14.3: no plan that may be has fewer bits than the best one: each way in each part is tried, in up to two parts together, and in four some.
func TestNoOther(t *testing.T) {
	ways := func(wide bool) []api.Part {
		most := Narrow
		if wide {
			most = Wide
		}
		var all []api.Part
		for k := range most + 1 {
			all = append(all, api.Part{K: k})
		}
		for k := range cost.Raw + 1 {
			all = append(all, api.Part{K: k, Raw: true})
		}
		return all
	}
	for _, l := range [][]int{{0, 0, 100, 100}, {0, 0, 5, 5}, {3, 10, -5, 0}, {0, 0, 0, 1 << 20}, {1, -1, 24576, 32768}, {1 << 29, -1 << 30, 0, 7}, {least, 0, greatest, 0}, {0, 0, 0, 0}, filled(4, -16), uneven(16, 4, 20), uneven(24, 6, 5), slices.Concat(filled(8, 0), filled(8, -8))} {
		for _, wide := range []bool{false, true} {
			_, fewest, _ := Best(l, 0, 2, wide)
			for _, w := range []bool{false, wide} {
				all := ways(w)
				for _, a := range all {
					others(t, l, api.Plan{Wide: w, Parts: []api.Part{a}}, fewest)
					for _, b := range all {
						others(t, l, api.Plan{Wide: w, Order: 1, Parts: []api.Part{a, b}}, fewest)
						others(t, l, api.Plan{Wide: w, Order: 2, Parts: []api.Part{a, b, a, b}}, fewest)
						others(t, l, api.Plan{Wide: w, Order: 2, Parts: []api.Part{a, a, b, b}}, fewest)
						others(t, l, api.Plan{Wide: w, Order: 2, Parts: []api.Part{{}, a, {K: 4}, b}}, fewest)
					}
				}
			}
		}
	}
}

// others holds a plan that may be against the fewest bits.
func others(t *testing.T, l []int, p api.Plan, fewest int) {
	t.Helper()
	if many := Bits(l, 0, p); many >= 0 && many < fewest {
		t.Fatalf("%v: %v has %d bits, fewer than %d", l, p, many, fewest)
	}
}

// P14.2, P14.3: with a greater most, or wide as well, there are no more bits.
func TestMorePlans(t *testing.T) {
	for _, l := range inputs() {
		last := math.MaxInt
		for most := range 9 {
			_, narrow, _ := Best(l, 0, most, false)
			_, both, _ := Best(l, 0, most, true)
			if narrow > last || both > narrow {
				t.Fatalf("%v, %d: %d and %d bits; %d", l, most, narrow, both, last)
			}
			last = narrow
		}
	}
}

// P14.2: blocks of as many numbers as may be, of which none is left out, be it the first one that is far, or the last one.
func TestLong(t *testing.T) {
	for _, c := range []struct{ many, order int }{{65535, 0}, {65503, 32}, {65280, 0}, {65248, 32}, {65531, 1}, {32768, 0}} {
		for _, size := range []int{0, 9, 30} {
			l := uneven(c.many, 1000, size)
			l[0] = greatest
			l[len(l)-1] = least
			for _, most := range []int{0, 1, 8} {
				chosen := first(modelPlans(l, c.order, most, true))
				p, many, e := Best(l, c.order, most, true)
				if !same(p, chosen.plan) || many != chosen.bits || many != Bits(l, c.order, p) || e != api.OK {
					t.Errorf("%v, %d, %d: the Order %d, %d bits, %v; not %d, %d", c, size, most, p.Order, many, e, chosen.plan.Order, chosen.bits)
				}
			}
		}
	}
}

// R5, R6: what is handed in is not changed, nor what stands behind it in its memory; asked again, the answers are the same, whatever was done to the ones before.
func TestHandedIn(t *testing.T) {
	long := slices.Concat(uneven(64, 8, 16), []int{greatest, 7})
	kept := slices.Clone(long)
	l := long[:64]
	for order := range 3 {
		for range 2 {
			model(t, l, order)
			if !slices.Equal(long, kept) {
				t.Fatalf("%v was changed to %v", kept, long)
			}
			p, _, _ := Best(l, order, 8, true)
			handed := api.Plan{Wide: p.Wide, Order: p.Order, Parts: slices.Clone(p.Parts)}
			Bits(l, order, handed)
			if !same(handed, p) {
				t.Fatalf("%v was changed to %v", p, handed)
			}
			for i := range p.Parts {
				p.Parts[i] = api.Part{K: 99}
			}
			for o := range 4 {
				cuts := Cuts(len(l), order, o)
				for i := range cuts {
					cuts[i] = -1
				}
			}
		}
	}
}

// P14.1: any numbers at all.
func FuzzCuts(f *testing.F) {
	f.Add(7, 1, 2)
	f.Add(0, 0, 0)
	f.Add(math.MaxInt, 1, 1)
	f.Add(-1, 9, 0)
	f.Fuzz(func(t *testing.T, many, order, o int) {
		if got, want := Cuts(many, order, o), modelCuts(many, order, o); !slices.Equal(got, want) {
			t.Errorf("%d, %d, %d: %v, not %v", many, order, o, got, want)
		}
	})
}

// P14.1, P14.2: any numbers that are near.
func FuzzBest(f *testing.F) {
	f.Add([]byte{0, 0, 0, 0, 2, 0}, 0, 8, false)
	f.Add([]byte{0, 0, 0, 0, 2, 0, 255, 255, 255, 255, 255, 1}, 0, 1, true)
	f.Add([]byte{0, 0, 0, 0, 0, 0, 255, 255, 255, 255, 255, 255}, 2, 1, true)
	f.Fuzz(func(t *testing.T, b []byte, order, most int, wide bool) {
		var l []int
		for ; len(b) >= 6 && len(l) < 200; b = b[6:] {
			// Of the last byte the lowest two bits of the one ahead tell the highest ones of a number of 34 bits; it tells how near to 0 that is.
			n := int(binary.LittleEndian.Uint32(b)) | int(b[4]&3)<<32
			l = append(l, (n-1<<33)>>(b[5]%40))
		}
		if len(l) == 0 || order < 0 || most < 0 {
			return
		}
		order, most = order%33, most%9
		chosen := first(modelPlans(l, order, most, wide))
		best(t, l, order, most, wide, chosen.plan, chosen.bits)
	})
}
