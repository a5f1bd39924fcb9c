package section

import (
	"encoding/binary"
	"math"
	"slices"
	"strings"
	"testing"

	"serinette/api"
	"serinette/bits"
	"serinette/parts"
	"serinette/rice"
)

// tight is a text of bits without the blanks that make it legible.
func tight(s string) string { return strings.ReplaceAll(s, " ", "") }

// digits is the lowest bits of a number as a text.
func digits(n, width int) string {
	var s strings.Builder
	for i := width - 1; i >= 0; i-- {
		s.WriteByte('0' + byte(n>>i&1))
	}
	return s.String()
}

// zeros is so many bits 0 as a text.
func zeros(many int) string { return strings.Repeat("0", many) }

// lay puts a text behind what is in a writer.
func lay(w *bits.Writer, s string) {
	for i := range len(s) {
		w.Put(uint64(s[i]-'0'), 1)
	}
}

// told is all bits of a writer as a text.
func told(w *bits.Writer) string {
	b := w.Bytes()
	var s strings.Builder
	for i := range w.Len() {
		s.WriteByte('0' + b[i/8]>>(7-i%8)&1)
	}
	return s.String()
}

// opened is a reader of which just the bits of a text are left, however many these are.
func opened(s string) *bits.Reader {
	w := bits.New()
	ahead := -len(s) & 7
	w.Put(1, ahead)
	lay(w, s)
	r := bits.Open(w.Bytes())
	r.Take(ahead)
	return r
}

// rest is what a reader has left, as a text; it takes all of it.
func rest(r *bits.Reader) string {
	var s strings.Builder
	for r.Left() > 0 && r.Fail() == api.OK {
		s.WriteByte('0' + byte(r.Take(1)))
	}
	return s.String()
}

// folded is a near number without its sign, by the words of chapter 2.
func folded(n int) int {
	if n < 0 {
		return -2*n - 1
	}
	return 2 * n
}

// modelPut is what Put must lay, by the chapter's words.
func modelPut(l []int, order int, p api.Plan) (string, api.Errno) {
	if parts.Bits(l, order, p) == -1 {
		return "", api.ErrArg
	}
	kind, width, raw := "00", 4, "1111"
	if p.Wide {
		kind, width, raw = "01", 5, "11111"
	}
	var s strings.Builder
	s.WriteString(kind + digits(p.Order, 4))
	for i, many := range parts.Cuts(len(l), order, p.Order) {
		part := p.Parts[i]
		if part.Raw {
			s.WriteString(raw + digits(part.K, 5))
		} else {
			s.WriteString(digits(part.K, width))
		}
		for _, n := range l[:many] {
			if part.Raw {
				s.WriteString(digits(n, part.K))
				continue
			}
			higher := folded(n) >> part.K
			if higher > 65535 {
				return "", api.ErrLong
			}
			s.WriteString(zeros(higher) + "1" + digits(folded(n), part.K))
		}
		l = l[many:]
	}
	return s.String(), api.OK
}

// modelText takes numbers from a text.
type modelText struct {
	text  string
	at    int
	short bool
}

// take is the next number, from the highest bit on.
func (m *modelText) take(width int) int {
	if m.short || m.at+width > len(m.text) {
		m.short = true
		return 0
	}
	n := 0
	for range width {
		n = 2*n + int(m.text[m.at]-'0')
		m.at++
	}
	return n
}

// number is a part's next one.
func (m *modelText) number(part api.Part) int {
	if part.Raw {
		n := m.take(part.K)
		if part.K > 0 && n >= 1<<(part.K-1) {
			n -= 1 << part.K
		}
		return n
	}
	higher := 0
	for !m.short && m.take(1) == 0 {
		higher++
	}
	u := higher<<part.K + m.take(part.K)
	if u%2 == 1 {
		return -(u + 1) / 2
	}
	return u / 2
}

// modelTake is what Take must tell of a text, and how many of its bits it must have taken, by the chapter's words.
func modelTake(text string, block, order int) ([]int, api.Plan, api.Errno, int) {
	m := &modelText{text: text}
	fail := func(e api.Errno) ([]int, api.Plan, api.Errno, int) { return nil, api.Plan{}, e, m.at }
	if order < 0 || order > 32 || block < 1 || block > 65535 || block <= order {
		return fail(api.ErrArg)
	}
	kind := m.take(2)
	if m.short {
		return fail(api.ErrShort)
	}
	if kind >= 2 {
		return fail(api.ErrKind)
	}
	p := api.Plan{Wide: kind == 1, Order: m.take(4)}
	if m.short {
		return fail(api.ErrShort)
	}
	cuts := parts.Cuts(block-order, order, p.Order)
	if len(cuts) == 0 {
		return fail(api.ErrForm)
	}
	width, raw := 4, 15
	if p.Wide {
		width, raw = 5, 31
	}
	var l []int
	for _, many := range cuts {
		part := api.Part{K: m.take(width)}
		if !m.short && part.K == raw {
			part = api.Part{K: m.take(5), Raw: true}
		}
		if m.short {
			return fail(api.ErrShort)
		}
		p.Parts = append(p.Parts, part)
		for range many {
			n := m.number(part)
			if m.short {
				return fail(api.ErrShort)
			}
			if n <= -1<<31 || n >= 1<<31 {
				return fail(api.ErrWidth)
			}
			l = append(l, n)
		}
	}
	return l, p, api.OK, m.at
}

// same tells whether two plans are alike.
func same(a, b api.Plan) bool {
	return a.Wide == b.Wide && a.Order == b.Order && slices.Equal(a.Parts, b.Parts)
}

// put holds what Put lays, and what it tells, against what it must, behind what may be in a writer; of an error nothing is laid.
func put(t *testing.T, l []int, order int, p api.Plan, want string, e api.Errno) {
	t.Helper()
	for _, ahead := range []string{"", "1", "0110101", "10000000", "111111111"} {
		w := bits.New()
		lay(w, ahead)
		if got := Put(w, l, order, p); got != e {
			t.Fatalf("%v, %d, %v: %v, not %v", l, order, p, got, e)
		}
		if got := told(w); got != ahead+tight(want) {
			t.Fatalf("%v, %d, %v: %s, not %s", l, order, p, got, ahead+want)
		}
		// What comes behind it stands just there.
		w.Put(5, 3)
		if got := told(w); got != ahead+tight(want)+"101" {
			t.Fatalf("%v, %d, %v: %s, not %s and 101", l, order, p, got, ahead+want)
		}
	}
}

// take holds what Take tells against what it must, and what it leaves in the reader; with an error all else is nothing.
func take(t *testing.T, text string, block, order int, l []int, p api.Plan, e api.Errno, left string) {
	t.Helper()
	text, left = tight(text), tight(left)
	r := opened(text)
	gotL, gotP, gotE := Take(r, block, order)
	if gotE != e || !slices.Equal(gotL, l) || !same(gotP, p) {
		t.Fatalf("%.200s, %d, %d: %v, %v, %v; not %v, %v, %v", text, block, order, gotL, gotP, gotE, l, p, e)
	}
	if r.Left() != len(left) {
		t.Fatalf("%.200s, %d, %d: %d bits are left, not %d", text, block, order, r.Left(), len(left))
	}
	// Where the reader failed it tells that; else it goes on.
	fail := api.OK
	if e == api.ErrShort {
		fail, left = api.ErrShort, ""
	}
	if got := r.Fail(); got != fail {
		t.Fatalf("%.200s, %d, %d: the reader has %v, not %v", text, block, order, got, fail)
	}
	if got := rest(r); got != left {
		t.Fatalf("%.200s, %d, %d: %s is left, not %s", text, block, order, got, left)
	}
}

// fails holds an error of Take against what it must be, and what is left behind it.
func fails(t *testing.T, text string, block, order int, e api.Errno, left string) {
	t.Helper()
	take(t, text, block, order, nil, api.Plan{}, e, left)
}

// both holds Put, and Take of what it laid, with bits behind it, against what must stand there.
func both(t *testing.T, l []int, order int, p api.Plan, want string) {
	t.Helper()
	put(t, l, order, p, want, api.OK)
	if many := parts.Bits(l, order, p); many != len(tight(want)) {
		t.Fatalf("%v, %d, %v: %d bits, of which chapter 14 tells %d", l, order, p, len(tight(want)), many)
	}
	take(t, want, len(l)+order, order, l, p, api.OK, "")
	for _, behind := range []string{"0", "1", "0101", "11111111", "0000000000000000"} {
		take(t, want+behind, len(l)+order, order, l, p, api.OK, behind)
	}
}

// model holds Put and Take against the models.
func model(t *testing.T, l []int, order int, p api.Plan) {
	t.Helper()
	want, e := modelPut(l, order, p)
	if e != api.OK {
		put(t, l, order, p, "", e)
		return
	}
	both(t, l, order, p, want)
}

// byK are parts that are all written by the same k.
func byK(many, k int) []api.Part {
	return slices.Repeat([]api.Part{{K: k}}, many)
}

// raws are parts that are all written with Raw, with so many bits each.
func raws(many, k int) []api.Part {
	return slices.Repeat([]api.Part{{K: k, Raw: true}}, many)
}

// filled is many times the same number.
func filled(many, n int) []int {
	return slices.Repeat([]int{n}, many)
}

// scramble makes numbers that look unruly, always the same ones.
func scramble(n uint64) uint64 {
	n = (n + 1) * 0x9e3779b97f4a7c15
	n = (n ^ n>>31) * 0xbf58476d1ce4e5b9
	return n ^ n>>29
}

// unruly are numbers of so many bits each, with a sign.
func unruly(many, width int, seed uint64) []int {
	l := make([]int, many)
	for i := range l {
		if width > 0 {
			l[i] = int(scramble(seed<<20+uint64(i))) >> (64 - width)
		}
	}
	return l
}

// P15.1, P15.2: the chapter's example.
func TestExample(t *testing.T) {
	p := api.Plan{Parts: byK(1, 0)}
	both(t, []int{0, 0}, 0, p, "00 0000 0000 1 1")
	w := bits.New()
	if e := Put(w, []int{0, 0}, 0, p); e != api.OK || !slices.Equal(w.Bytes(), []byte{0x00, 0x30}) || w.Len() != 12 {
		t.Error(e, w.Bytes(), w.Len())
	}
	r := bits.Open([]byte{0x00, 0x3f})
	l, q, e := Take(r, 2, 0)
	if e != api.OK || !slices.Equal(l, []int{0, 0}) || !same(q, p) || r.At() != 12 || r.Left() != 4 {
		t.Error(l, q, e, r.At(), r.Left())
	}
}

// P15.1, P15.2: sections that are written out by hand: Wide and not, Raw and not, with an order and without.
func TestByHand(t *testing.T) {
	// Folded these are 6, 20, 9, 0.
	l := []int{3, 10, -5, 0}
	both(t, l, 0, api.Plan{Parts: byK(1, 3)}, "00 0000 0011 1110 001100 01001 1000")
	both(t, l, 0, api.Plan{Wide: true, Parts: byK(1, 3)}, "01 0000 00011 1110 001100 01001 1000")
	both(t, l, 0, api.Plan{Parts: raws(1, 5)}, "00 0000 1111 00101 00011 01010 11011 00000")
	both(t, l, 0, api.Plan{Wide: true, Parts: raws(1, 6)}, "01 0000 11111 00110 000011 001010 111011 000000")
	both(t, l, 0, api.Plan{Order: 1, Parts: []api.Part{{K: 2}, {K: 1}}}, "00 0001 0010 0110 00000100 0001 000011 10")
	both(t, l, 0, api.Plan{Wide: true, Order: 1, Parts: []api.Part{{K: 2}, {K: 1}}}, "01 0001 00010 0110 00000100 00001 000011 10")
	// Just one of two parts is Raw.
	both(t, l, 0, api.Plan{Order: 1, Parts: []api.Part{{K: 5, Raw: true}, {K: 1}}}, "00 0001 1111 00101 00011 01010 0001 000011 10")
	both(t, l, 0, api.Plan{Wide: true, Order: 1, Parts: []api.Part{{K: 2}, {K: 4, Raw: true}}}, "01 0001 00010 0110 00000100 11111 00100 1011 0000")
	// With the order 2 the first of two parts has one number, the other three.
	both(t, l, 2, api.Plan{Order: 1, Parts: []api.Part{{K: 2}, {K: 1}}}, "00 0001 0010 0110 0001 00000000001 0 000011 10")
	both(t, l, 2, api.Plan{Order: 1, Parts: []api.Part{{K: 3, Raw: true}, {K: 6, Raw: true}}}, "00 0001 1111 00011 011 1111 00110 001010 111011 000000")
	// Four parts, each in its own way.
	four := []api.Part{{}, {K: 3}, {K: 5, Raw: true}, {}}
	both(t, l, 0, api.Plan{Order: 2, Parts: four}, "00 0010 0000 0000001 0011 001100 1111 00101 11011 0000 1")
	both(t, l, 0, api.Plan{Wide: true, Order: 2, Parts: four}, "01 0010 00000 0000001 00011 001100 11111 00101 11011 00000 1")
	// The greatest k of both, and 15 and 31, which are none of a plan that isn't Wide, or is.
	both(t, []int{-1}, 0, api.Plan{Parts: byK(1, 14)}, "00 0000 1110 1 00000000000001")
	both(t, []int{-1}, 0, api.Plan{Wide: true, Parts: byK(1, 15)}, "01 0000 01111 1 000000000000001")
	both(t, []int{-1}, 0, api.Plan{Wide: true, Parts: byK(1, 30)}, "01 0000 11110 1 000000000000000000000000000001")
	both(t, []int{-1}, 0, api.Plan{Parts: raws(1, 15)}, "00 0000 1111 01111 111111111111111")
	both(t, []int{-1}, 0, api.Plan{Wide: true, Parts: raws(1, 30)}, "01 0000 11111 11110 111111111111111111111111111111")
}

// P15.1, P15.2: Raw by K 0: all are 0, and have no bit; with Raw parts beside it.
func TestRawNone(t *testing.T) {
	both(t, []int{0, 0, 0}, 0, api.Plan{Parts: raws(1, 0)}, "00 0000 1111 00000")
	both(t, filled(16, 0), 0, api.Plan{Wide: true, Parts: raws(1, 0)}, "01 0000 11111 00000")
	both(t, []int{0, 0, 1, -1}, 0, api.Plan{Order: 1, Parts: []api.Part{{K: 0, Raw: true}, {K: 0}}}, "00 0001 1111 00000 0000 001 01")
	both(t, []int{1, -1, 0, 0}, 0, api.Plan{Order: 1, Parts: []api.Part{{K: 2, Raw: true}, {K: 0, Raw: true}}}, "00 0001 1111 00010 01 11 1111 00000")
	both(t, filled(4, 0), 0, api.Plan{Order: 2, Parts: raws(4, 0)}, "00 0010"+strings.Repeat("1111 00000", 4))
	// Zeros may be written by a greater K, too.
	both(t, []int{0, 0}, 0, api.Plan{Parts: raws(1, 3)}, "00 0000 1111 00011 000 000")
	take(t, "00 0000 1111 00000 1", 65535, 32, filled(65503, 0), api.Plan{Parts: raws(1, 0)}, api.OK, "1")
}

// P15.1, P15.2: Raw numbers have a sign, in K bits: the least, the greatest, and those beside 0, by each K.
func TestRawSigns(t *testing.T) {
	for k := 1; k <= 31; k++ {
		least, greatest := -1<<(k-1), 1<<(k-1)-1
		l := []int{least, greatest, 0, -1}
		text := digits(k, 5) + "1" + zeros(k-1) + "0" + strings.Repeat("1", k-1) + zeros(k) + strings.Repeat("1", k)
		both(t, l, 0, api.Plan{Parts: raws(1, k)}, "00 0000 1111"+text)
		both(t, l, 0, api.Plan{Wide: true, Parts: raws(1, k)}, "01 0000 11111"+text)
		for _, n := range []int{least - 1, greatest + 1} {
			put(t, []int{0, n}, 0, api.Plan{Parts: raws(1, k)}, "", api.ErrArg)
			put(t, []int{n, 0}, 0, api.Plan{Wide: true, Parts: raws(1, k)}, "", api.ErrArg)
		}
	}
	both(t, []int{-1 << 30, 1<<30 - 1}, 0, api.Plan{Parts: raws(1, 31)}, "00 0000 1111 11111 1"+zeros(30)+"0"+strings.Repeat("1", 30))
}

// P15.1: a plan that can't be of the block, in each of the ways of chapter 14: nothing is laid.
func TestPutArg(t *testing.T) {
	l := []int{3, 10, -5, 0}
	for _, wide := range []bool{false, true} {
		most := 14
		if wide {
			most = 30
		}
		plan := func(o int, ways ...api.Part) api.Plan { return api.Plan{Wide: wide, Order: o, Parts: ways} }
		arg := func(l []int, order int, p api.Plan) {
			t.Helper()
			put(t, l, order, p, "", api.ErrArg)
		}
		// An Order that is none, that is no multiple, or whose share isn't above the order.
		for _, o := range []int{math.MinInt, -1, 3, 4, 15, 16, 17, 64, math.MaxInt} {
			arg(l, 0, plan(o))
			arg(l, 0, plan(o, api.Part{}))
			arg(l, 0, plan(o, byK(8, 0)...))
			arg(l, 0, plan(o, raws(8, 5)...))
		}
		arg(l[:3], 0, plan(1, byK(2, 0)...))
		arg(l, 1, plan(1, byK(2, 0)...))
		arg(l, 4, plan(1, byK(2, 0)...))
		arg(l[:2], 2, plan(1, byK(2, 0)...))
		arg(l[:0], 0, plan(0, byK(1, 0)...))
		arg(l[:0], 3, plan(0, byK(1, 0)...))
		arg(nil, 0, plan(0))
		arg(l, -1, plan(0, byK(1, 0)...))
		arg(l, math.MinInt, plan(0, byK(1, 0)...))
		arg(filled(16, 0), 0, plan(4, byK(15, 0)...))
		arg(filled(65536, 0), 0, plan(16, byK(65536, 0)...))
		// One of Parts too few, or too many.
		for o := range 3 {
			for many := range 8 {
				if many != 1<<o {
					arg(l, 0, plan(o, byK(many, 3)...))
					arg(l, 0, plan(o, raws(many, 5)...))
				}
			}
		}
		// A K below 0, and above the greatest, in each part.
		for _, k := range []int{math.MinInt, -1, most + 1, most + 2, 31, 32, 64, 1<<32 + 3, math.MaxInt} {
			arg(l, 0, plan(0, api.Part{K: k}))
			arg(l, 0, plan(1, api.Part{K: k}, api.Part{K: 3}))
			arg(l, 0, plan(1, api.Part{K: 3}, api.Part{K: k}))
			arg(filled(4, 0), 0, plan(1, api.Part{K: 0, Raw: true}, api.Part{K: k}))
		}
		// A Raw of a K below the width, and above what five bits tell.
		for _, k := range []int{math.MinInt, -1, 0, 1, 4, 32, 33, 64, 1<<32 + 5, math.MaxInt} {
			arg(l, 0, plan(0, api.Part{K: k, Raw: true}))
			arg([]int{0, 0, 10, 0}, 0, plan(1, api.Part{K: 5}, api.Part{K: k, Raw: true}))
			arg([]int{10, 0, 0, 0}, 0, plan(1, api.Part{K: k, Raw: true}, api.Part{K: 5}))
		}
		// A number that is too wide for Raw, or isn't near.
		for _, n := range []int{-1<<30 - 1, 1 << 30, -1 << 31, 1 << 31, -1 << 33, 1<<33 - 1} {
			arg([]int{0, n}, 0, plan(0, raws(1, 31)...))
		}
		for _, n := range []int{math.MinInt, -1<<33 - 1, 1 << 33, math.MaxInt} {
			for k := range 32 {
				arg([]int{0, n}, 0, plan(1, byK(2, k)...))
				arg([]int{n, 0}, 0, plan(1, raws(2, k)...))
			}
		}
	}
}

// edges are a k, and the two numbers whose higher part by it is just Longest, and one more; folded both have all lower bits 1, or 0.
func edges(k int) (int, int) {
	last, next := 65536<<k-1, 65536<<k
	return rice.Unfold(uint64(last)), rice.Unfold(uint64(next))
}

// P15.1: a number whose higher part is just Longest, or one more, wherever it stands, by each k.
func TestPutLong(t *testing.T) {
	for k := range 18 {
		last, next := edges(k)
		far := -next - 1 // folded one more than next
		for _, wide := range []bool{false, true} {
			if k > 14 && !wide {
				continue
			}
			one := api.Plan{Wide: wide, Parts: byK(1, k)}
			two := api.Plan{Wide: wide, Order: 1, Parts: byK(2, k)}
			for place := range 4 {
				l := filled(4, 0)
				for _, n := range []int{next, far} {
					l[place] = n
					put(t, l, 0, one, "", api.ErrLong)
					put(t, l, 0, two, "", api.ErrLong)
				}
				l[place] = last
				for _, p := range []api.Plan{one, two} {
					text, _ := modelPut(l, 0, p)
					put(t, l, 0, p, text, api.OK)
				}
			}
		}
	}
	// With an order the first part has one number alone, and the last one three.
	p := api.Plan{Order: 1, Parts: []api.Part{{K: 0}, {K: 1}}}
	put(t, []int{-32768, 65535, -65536, 65535}, 2, p, "00 0001 0000"+zeros(65535)+"1 0001"+zeros(65535)+"10"+zeros(65535)+"11"+zeros(65535)+"10", api.OK)
	put(t, []int{32768, 0, 0, 0}, 2, p, "", api.ErrLong)
	put(t, []int{0, 32768, 0, 0}, 2, p, "00 0001 0000 1 0001"+zeros(32768)+"10 10 10", api.OK)
	put(t, []int{0, 65536, 0, 0}, 2, p, "", api.ErrLong)
	put(t, []int{0, 0, 0, 65536}, 2, p, "", api.ErrLong)
	// By k 18 and more none that is near is too long.
	for k := 18; k <= 30; k++ {
		for _, n := range []int{-1 << 33, 1<<33 - 1} {
			p := api.Plan{Wide: true, Parts: byK(1, k)}
			text, _ := modelPut([]int{n}, 0, p)
			put(t, []int{n}, 0, p, text, api.OK)
		}
	}
}

// P15.1: in a part that is Raw no number is too long, though its width is a small k; nor does it hide one that is, ahead of it or behind.
func TestPutLongRaw(t *testing.T) {
	for _, n := range []int{32768, 1 << 20, -1 << 30, 1<<30 - 1} {
		text := "11111" + digits(n, 31)
		put(t, []int{n}, 0, api.Plan{Parts: raws(1, 31)}, "00 0000 1111"+text, api.OK)
		put(t, []int{n}, 0, api.Plan{Wide: true, Parts: raws(1, 31)}, "01 0000 11111"+text, api.OK)
		put(t, []int{n, 0}, 0, api.Plan{Order: 1, Parts: []api.Part{{K: 31, Raw: true}, {}}}, "00 0001 1111"+text+"0000 1", api.OK)
		put(t, []int{0, n}, 0, api.Plan{Order: 1, Parts: []api.Part{{}, {K: 31, Raw: true}}}, "00 0001 0000 1 1111"+text, api.OK)
		put(t, []int{n, n}, 0, api.Plan{Order: 1, Parts: []api.Part{{K: 31, Raw: true}, {}}}, "", api.ErrLong)
		put(t, []int{n, n}, 0, api.Plan{Order: 1, Parts: []api.Part{{}, {K: 31, Raw: true}}}, "", api.ErrLong)
	}
	// The width is 17: by k 0 it were too long.
	put(t, []int{65535, -65536}, 0, api.Plan{Parts: raws(1, 17)}, "00 0000 1111 10001 01111111111111111 10000000000000000", api.OK)
}

// P15.1: both errors at once: the first one is told.
func TestPutBoth(t *testing.T) {
	for _, l := range [][]int{{32768, 0}, {0, 32768}, {1 << 32, 1 << 32}} {
		put(t, l, 0, api.Plan{Parts: byK(1, 0)}, "", api.ErrLong)
		put(t, l, 0, api.Plan{Order: 1, Parts: byK(2, 0)}, "", api.ErrLong)
		for _, p := range []api.Plan{
			{Order: 2, Parts: byK(4, 0)},
			{Order: -1, Parts: byK(1, 0)},
			{Parts: byK(2, 0)},
			{Order: 1, Parts: byK(1, 0)},
			{Order: 1, Parts: byK(3, 0)},
			{Parts: byK(1, -1)},
			{Order: 1, Parts: []api.Part{{K: 0}, {K: 15}}},
			{Order: 1, Parts: []api.Part{{K: -1}, {K: 0}}},
			{Wide: true, Order: 1, Parts: []api.Part{{K: 0}, {K: 31}}},
			{Order: 1, Parts: []api.Part{{K: 0}, {K: 32, Raw: true}}},
			{Order: 1, Parts: []api.Part{{K: -1, Raw: true}, {K: 0}}},
		} {
			put(t, l, 0, p, "", api.ErrArg)
		}
		put(t, l, 2, api.Plan{Order: 1, Parts: byK(2, 0)}, "", api.ErrArg)
		put(t, l, -1, api.Plan{Parts: byK(1, 0)}, "", api.ErrArg)
	}
	// One number is too long, another one isn't near.
	put(t, []int{32768, 1 << 33}, 0, api.Plan{Parts: byK(1, 0)}, "", api.ErrArg)
	put(t, []int{32768, 1 << 33}, 0, api.Plan{Order: 1, Parts: byK(2, 0)}, "", api.ErrArg)
}

// P15.1: sections behind each other, and behind any bits, wherever these end.
func TestPutBehind(t *testing.T) {
	l := []int{0, -1, 3, -4, 0, 0}
	p := api.Plan{Order: 1, Parts: []api.Part{{K: 1}, {K: 3, Raw: true}}}
	text := tight("00 0001 0001 1 0 1 1 1111 00011 011 100 000 000")
	for ahead := range 20 {
		w := bits.New()
		want := digits(0x5a5a5, ahead)
		lay(w, want)
		for range 3 {
			if e := Put(w, l, 2, p); e != api.OK {
				t.Fatal(e)
			}
			want += text
			// An error between them leaves nothing.
			if e := Put(w, l, 3, p); e != api.ErrArg {
				t.Fatal(e)
			}
			if e := Put(w, []int{0, 1 << 20}, 0, api.Plan{Parts: byK(1, 2)}); e != api.ErrLong {
				t.Fatal(e)
			}
			if got := told(w); got != want {
				t.Fatalf("%s, not %s", got, want)
			}
		}
		r := opened(want)
		r.Take(ahead)
		for range 3 {
			got, q, e := Take(r, 8, 2)
			if e != api.OK || !slices.Equal(got, l) || !same(q, p) {
				t.Fatal(got, q, e)
			}
		}
		if e := r.End(); e != api.OK {
			t.Fatal(e, r.Left())
		}
	}
}

// P15.2: an order, or a block, that can't be: no bit is taken, whatever the reader has.
func TestTakeArg(t *testing.T) {
	const section = "00 0000 1111 00000"
	for _, c := range []struct{ block, order int }{
		{8, -1}, {8, -2}, {8, math.MinInt}, {-1, -2}, {0, -1}, {65535, -1},
		{65535, 33}, {34, 33}, {33, 33}, {65535, math.MaxInt}, {65536, 33},
		{0, 0}, {-1, 0}, {math.MinInt, 0}, {0, 32}, {math.MinInt, math.MinInt},
		{65536, 0}, {65536, 32}, {65537, 0}, {1 << 32, 0}, {math.MaxInt, 0}, {math.MaxInt, math.MaxInt}, {65536, -1},
		{1, 1}, {2, 2}, {32, 32}, {31, 32}, {1, 32}, {1, 2},
	} {
		// Beside bits that tell nothing, ones that tell 2 or 3, an Order that can't be, and too few.
		for _, text := range []string{section, "10 0000 0000 1", "11", "00 1111 0000 1", "01 0000 11110 000010", "0", ""} {
			fails(t, text, c.block, c.order, api.ErrArg, text)
		}
	}
	for _, c := range []struct{ block, order int }{{1, 0}, {2, 0}, {2, 1}, {33, 32}, {34, 32}, {65535, 0}, {65534, 0}, {65535, 32}, {65535, 31}} {
		take(t, section, c.block, c.order, filled(c.block-c.order, 0), api.Plan{Parts: raws(1, 0)}, api.OK, "")
	}
}

// P15.2: a reader that has failed before: its own error is told, but behind those of the arguments; it stays where it is.
func TestTakeFailed(t *testing.T) {
	short := func() *bits.Reader {
		r := bits.Open([]byte{0x00, 0x3f})
		r.Take(17)
		return r
	}
	form := func() *bits.Reader {
		r := bits.Open([]byte{0x81, 0x00, 0x3f})
		r.Take(3)
		r.Fill()
		return r
	}
	for i, open := range []func() *bits.Reader{short, form} {
		want := []api.Errno{api.ErrShort, api.ErrForm}[i]
		for _, c := range []struct {
			block, order int
			e            api.Errno
		}{{2, 0, want}, {65535, 32, want}, {1, 0, want}, {0, 0, api.ErrArg}, {2, 2, api.ErrArg}, {2, -1, api.ErrArg}, {65536, 0, api.ErrArg}, {40, 33, api.ErrArg}} {
			r := open()
			at := r.At()
			l, p, e := Take(r, c.block, c.order)
			if e != c.e || len(l) > 0 || !same(p, api.Plan{}) || r.At() != at || r.Fail() != want {
				t.Errorf("%v, %d, %d: %v, %v, %v; at %d, %v", want, c.block, c.order, l, p, e, r.At(), r.Fail())
			}
		}
	}
}

// P15.2: first bits that tell 2 and 3: nothing behind them is taken.
func TestTakeKind(t *testing.T) {
	for _, kind := range []string{"10", "11"} {
		// Behind them: none, too few, an Order by which it can't be cut, a number that is too wide, a whole section.
		for _, behind := range []string{"", "0", "000", "1111", "0001", "0000 0000", "0000 11111 00010", "0000 11110 00001" + zeros(30), "0000 0000 1 1", "1111 1111 1111 1111"} {
			for block := 1; block < 4; block++ {
				fails(t, kind+behind, block, 0, api.ErrKind, behind)
			}
		}
	}
}

// P15.2: an Order by which the block can't be cut: nothing behind it is taken.
func TestTakeForm(t *testing.T) {
	for _, kind := range []string{"00", "01"} {
		for _, c := range []struct{ block, order, o int }{
			{1, 0, 1}, {7, 0, 1}, {6, 0, 2}, {4, 2, 1}, {8, 4, 1}, {8, 2, 2}, {4, 3, 1}, {8, 0, 4}, {8, 0, 15}, {65535, 0, 1}, {65535, 0, 15}, {64, 32, 1}, {128, 32, 2}, {32768, 1, 15}, {16384, 0, 15}, {49152, 0, 15},
		} {
			// Behind it: none, too few, a number that is too wide, a whole section.
			for _, behind := range []string{"", "0", "0000", "11110 00001" + zeros(30), "0000 1111 1111 0000 1111", "11111 00000 11111 00000"} {
				fails(t, kind+digits(c.o, 4)+behind, c.block, c.order, api.ErrForm, behind)
			}
		}
		// Where it can be cut: the share just above the order, and as many parts as can be.
		raw := "1111 00000"
		if kind == "01" {
			raw = "11111 00000"
		}
		for _, c := range []struct{ block, order, o int }{{4, 1, 1}, {6, 2, 1}, {66, 32, 1}, {132, 32, 2}, {8, 0, 3}, {65534, 32, 1}, {32768, 0, 15}} {
			want := api.Plan{Wide: kind == "01", Order: c.o, Parts: raws(1<<c.o, 0)}
			take(t, kind+digits(c.o, 4)+strings.Repeat(raw, 1<<c.o)+"1", c.block, c.order, filled(c.block-c.order, 0), want, api.OK, "1")
		}
	}
}

// P15.2: all Orders and many blocks, whether they can be cut or not.
func TestTakeOrders(t *testing.T) {
	for block := 1; block <= 70; block++ {
		for order := range 33 {
			for o := range 16 {
				text := "00" + digits(o, 4) + tight(strings.Repeat("1111 00000", 1<<min(o, 7))) + "01"
				l, p, e, at := modelTake(text, block, order)
				take(t, text, block, order, l, p, e, text[at:])
			}
		}
	}
}

// starts are where each thing of a section begins that is taken at once, or bit by bit, and its end, for a text with a blank between any two.
func starts(spaced string) []int {
	at, all := 0, []int{0}
	for _, word := range strings.Fields(spaced) {
		at += len(word)
		all = append(all, at)
	}
	return all
}

// P15.2: a reader that ends at each place of a section: it stays where the thing that is cut off begins.
func TestTakeShort(t *testing.T) {
	for _, c := range []struct {
		spaced       string
		block, order int
	}{
		// Bits of a number's zeros and the bit 1 behind them are taken one by one, its lower ones at once.
		{"00 0000 0000 1 1", 2, 0},
		{"00 0000 0011 1 110 0 0 1 100 0 1 001 1 000", 4, 0},
		{"01 0000 00011 1 110 0 0 1 100 0 1 001 1 000", 4, 0},
		{"00 0000 1111 00101 00011 01010 11011 00000", 4, 0},
		{"01 0000 11111 00101 00011 01010 11011 00000", 4, 0},
		{"00 0001 1111 00000 1111 00010 01 11", 4, 0},
		{"00 0001 0010 0 1 10 1111 00011 011 100 000", 6, 2},
		{"01 0001 11111 00011 011 00010 0 1 10 0 0 0 1 11 1 00", 6, 2},
		{"01 0010 11110 1 000000000000000000000000000001 11111 11111 1000000000000000000000000000000 00000 1 11111 00000", 4, 0},
		{"00 0000 0000 " + strings.Repeat("0 ", 300) + "1", 1, 0},
	} {
		text, places := tight(c.spaced), starts(c.spaced)
		for many := range len(text) {
			i, found := slices.BinarySearch(places, many)
			if !found {
				i--
			}
			fails(t, text[:many], c.block, c.order, api.ErrShort, text[places[i]:many])
		}
		l, p, _, _ := modelTake(text, c.block, c.order)
		if len(l) != c.block-c.order {
			t.Fatal(c, l)
		}
		take(t, text, c.block, c.order, l, p, api.OK, "")
	}
}

// P15.2: runs of zeros that are longer than Put makes them: Take of chapter 2 takes them all, as many as there are.
func TestTakeLongRuns(t *testing.T) {
	for _, many := range []int{65535, 65536, 65537, 100000} {
		n := rice.Unfold(uint64(many))
		take(t, "00 0000 0000"+zeros(many)+"1 0", 1, 0, []int{n}, api.Plan{Parts: byK(1, 0)}, api.OK, "0")
		n = rice.Unfold(uint64(4*many + 3))
		take(t, "00 0001 0000 1 0010"+zeros(many)+"1 11", 2, 0, []int{0, n}, api.Plan{Order: 1, Parts: []api.Part{{}, {K: 2}}}, api.OK, "")
		// Without a bit 1 behind them all of them are taken.
		fails(t, "00 0000 0000"+zeros(many), 1, 0, api.ErrShort, "")
		fails(t, "00 0000 1110"+zeros(many), 1, 0, api.ErrShort, "")
		fails(t, "01 0000 11110"+zeros(many), 2, 0, api.ErrShort, "")
		// Without all of the lower bits those that are there stay.
		fails(t, "00 0000 1110"+zeros(many)+"1 1111111111111", 1, 0, api.ErrShort, "1111111111111")
		fails(t, "01 0000 11110"+zeros(many)+"1"+zeros(29), 1, 0, api.ErrShort, zeros(29))
	}
	// Many bits 0 by the greatest k.
	fails(t, "01 0000 11110"+zeros(100000)+"1"+zeros(30)+"111", 1, 0, api.ErrWidth, "111")
}

// wideText is a section with one number, n, behind a 0, with bits behind it: by k, in a plan that is wide.
func wideText(n, k int) string {
	u := folded(n)
	return "01 0000" + digits(k, 5) + "1" + zeros(k) + zeros(u>>k) + "1" + digits(u, k)
}

// P15.2: numbers of -2^31 and 2^31, and of one nearer to 0, by each k that isn't too far from them; the error is told as soon as the number is read.
func TestTakeWidth(t *testing.T) {
	for k := 20; k <= 30; k++ {
		for _, n := range []int{1<<31 - 1, -1<<31 + 1} {
			for _, behind := range []string{"", "0", "1", "0011"} {
				take(t, wideText(n, k)+behind, 2, 0, []int{0, n}, api.Plan{Wide: true, Parts: byK(1, k)}, api.OK, behind)
			}
			// Cut off within it, it isn't one; nor is one that is behind it.
			fails(t, wideText(n, k), 3, 0, api.ErrShort, "")
		}
		for _, n := range []int{1 << 31, -1 << 31, 1<<31 + 1, -1<<31 - 1, 1 << 32, -1 << 32, 1<<33 - 1, -1 << 33, 1 << 33, -1<<33 - 1} {
			text := wideText(n, k)
			// With more numbers to be taken behind it, whether they are there or not, and as wide.
			for _, behind := range []string{"", "0", "1", "1111", zeros(40), "1" + zeros(k), text} {
				for block := 2; block < 5; block++ {
					fails(t, text+behind, block, 0, api.ErrWidth, behind)
				}
			}
			// Its last bit is missing: it isn't read.
			text = tight(text)
			fails(t, text[:len(text)-1], 2, 0, api.ErrShort, text[len(text)-k:len(text)-1])
			// In the first of two parts, and in the second one.
			alone := text[6:11] + text[12+k:]
			one := "01 0001" + alone
			fails(t, one+"0000", 2, 0, api.ErrWidth, "0000")
			fails(t, one+"11111 00000", 2, 0, api.ErrWidth, "11111 00000")
			two := "01 0001 11111 00000" + alone
			fails(t, two, 2, 0, api.ErrWidth, "")
			fails(t, two+"10", 2, 0, api.ErrWidth, "10")
		}
	}
	// By a k of a plan that isn't Wide: as many bits 0 as are needed.
	p := api.Plan{Parts: byK(1, 14)}
	take(t, "00 0000 1110"+zeros(1<<18-1)+"1 11111111111110 1", 1, 0, []int{1<<31 - 1}, p, api.OK, "1")
	take(t, "00 0000 1110"+zeros(1<<18-1)+"1 11111111111101 1", 1, 0, []int{-1<<31 + 1}, p, api.OK, "1")
	fails(t, "00 0000 1110"+zeros(1<<18-1)+"1 11111111111111 1", 1, 0, api.ErrWidth, "1")
	fails(t, "00 0000 1110"+zeros(1<<18)+"1 00000000000000 1", 1, 0, api.ErrWidth, "1")
}

// P15.2: no number that is Raw is too wide: the widest have 31 bits.
func TestTakeWidthRaw(t *testing.T) {
	for _, ahead := range []string{"00 0000 1111", "01 0000 11111"} {
		p := api.Plan{Wide: ahead[1] == '1', Parts: raws(1, 31)}
		ones := strings.Repeat("1", 31)
		take(t, ahead+"11111"+ones+"0"+ones[1:]+"1"+zeros(30)+zeros(31)+"01", 4, 0, []int{-1, 1<<30 - 1, -1 << 30, 0}, p, api.OK, "01")
	}
	// Behind one that is too wide, and ahead of it, there is Raw.
	tooWide := "11110 00001" + zeros(30)
	fails(t, "01 0001"+tooWide+"11111 11111 1"+zeros(30), 2, 0, api.ErrWidth, "11111 11111 1"+zeros(30))
	fails(t, "01 0001 11111 11111 1"+zeros(30)+tooWide+"1", 2, 0, api.ErrWidth, "1")
	// Put asks for no such width.
	l := []int{0, 1 << 31}
	plan := api.Plan{Wide: true, Parts: byK(1, 30)}
	put(t, l, 0, plan, wideText(1<<31, 30), api.OK)
	fails(t, wideText(1<<31, 30), 2, 0, api.ErrWidth, "")
}

// P15.2: any two errors at once: the first one is told. (Arguments that can't be stand ahead of all: see TestTakeArg.)
func TestTakeTwo(t *testing.T) {
	tooWide := "11110 00001" + zeros(30)
	// 2 or 3, and: too few bits, an Order by which it can't be cut, a number that is too wide.
	fails(t, "10", 2, 0, api.ErrKind, "")
	fails(t, "11 00", 2, 0, api.ErrKind, "00")
	fails(t, "11 0010", 2, 0, api.ErrKind, "0010")
	fails(t, "10 0000"+tooWide, 1, 0, api.ErrKind, "0000"+tooWide)
	// One bit alone doesn't tell what the two would.
	fails(t, "1", 2, 0, api.ErrShort, "1")
	// An Order by which it can't be cut, and: too few bits, a number that is too wide; three of its bits don't tell it.
	fails(t, "01 0001", 1, 0, api.ErrForm, "")
	fails(t, "01 0001 111", 1, 0, api.ErrForm, "111")
	fails(t, "01 0001"+tooWide, 1, 0, api.ErrForm, tooWide)
	fails(t, "01 111", 1, 0, api.ErrShort, "111")
	// A number that is too wide, and too few bits: behind it, and within it.
	fails(t, "01 0000"+tooWide, 2, 0, api.ErrWidth, "")
	fails(t, "01 0000"+tooWide+"1 00", 2, 0, api.ErrWidth, "1 00")
	fails(t, "01 0000"+tooWide[:len(tooWide)-1], 1, 0, api.ErrShort, zeros(29))
	fails(t, "01 0000 11110 0000", 1, 0, api.ErrShort, "")
}

// P15.1, P15.2, P15.3: many blocks, by plans that are best and ones that aren't, against the models, with what is behind.
func TestModel(t *testing.T) {
	seed := uint64(0)
	for _, block := range []int{1, 2, 3, 8, 16, 48, 96} {
		for _, order := range []int{0, 1, 2, 5, 32} {
			for _, width := range []int{0, 1, 2, 5, 9, 14} {
				if block <= order {
					continue
				}
				seed++
				l := unruly(block-order, width, seed)
				for _, wide := range []bool{false, true} {
					for most := range 5 {
						p, _, _ := parts.Best(l, order, most, wide)
						model(t, l, order, p)
					}
					for o := range 6 {
						for _, k := range []int{0, 1, width, 13, 14, 15, 30, 31} {
							model(t, l, order, api.Plan{Wide: wide, Order: o, Parts: raws(1<<o, k)})
							// By a k that is far below the width there were too many zeros to go through one by one.
							if k >= width-5 {
								model(t, l, order, api.Plan{Wide: wide, Order: o, Parts: byK(1<<o, k)})
							}
						}
						mixed := byK(1<<o, min(width, 14))
						for i := range mixed {
							mixed[i].Raw = scramble(seed+uint64(i))%2 == 0
						}
						model(t, l, order, api.Plan{Wide: wide, Order: o, Parts: mixed})
					}
				}
			}
		}
	}
}

// P15.3: wide numbers, by each k.
func TestWideNumbers(t *testing.T) {
	for width := 10; width <= 32; width++ {
		for k := max(0, width-8); k <= 30; k++ {
			l := unruly(12, width, uint64(100*width+k))
			if width == 32 {
				l[0], l[11] = 1<<31-1, -1<<31+1
			}
			model(t, l, 4, api.Plan{Wide: true, Parts: byK(1, k)})
			model(t, l, 4, api.Plan{Parts: raws(1, min(width, 31))})
			if k <= 14 {
				model(t, l, 4, api.Plan{Parts: byK(1, k)})
			}
		}
	}
}

// P15.3: the longest blocks there and back, in as many bits as chapter 14 tells.
func TestLongest(t *testing.T) {
	for _, c := range []struct{ block, order, o int }{{65535, 0, 0}, {65535, 32, 0}, {65534, 32, 1}, {65280, 32, 8}, {32768, 0, 15}} {
		l := unruly(c.block-c.order, 12, uint64(c.block+c.order))
		p := api.Plan{Order: c.o, Parts: byK(1<<c.o, 11)}
		for i := range p.Parts {
			if i%3 == 1 {
				p.Parts[i] = api.Part{K: 12 + i%7, Raw: true}
			}
		}
		w := bits.New()
		if e := Put(w, l, c.order, p); e != api.OK || w.Len() != parts.Bits(l, c.order, p) {
			t.Fatal(c, e, w.Len(), parts.Bits(l, c.order, p))
		}
		r := bits.Open(w.Bytes())
		got, q, e := Take(r, c.block, c.order)
		if e != api.OK || !slices.Equal(got, l) || !same(q, p) || r.At() != w.Len() {
			t.Fatal(c, e, r.At(), w.Len())
		}
	}
	// More than MaxBlock numbers, or an order that no predictor has, are put, but not taken.
	put(t, filled(65536, 0), 0, api.Plan{Parts: raws(1, 0)}, "00 0000 1111 00000", api.OK)
	put(t, []int{0}, 1000, api.Plan{Parts: raws(1, 0)}, "00 0000 1111 00000", api.OK)
	put(t, []int{0}, math.MaxInt, api.Plan{Parts: byK(1, 0)}, "00 0000 0000 1", api.OK)
}

// P15.2: any bits at all, of all lengths: what the model tells, and where it ends.
func TestAnyBits(t *testing.T) {
	errors := map[api.Errno]int{}
	for i := range uint64(60000) {
		// The first bits mostly tell what can be; bits 1 are as rare as the third of these numbers says.
		kind, o, rare := scramble(i), scramble(i+1<<40), scramble(i+1<<41)%5
		text := digits(int(kind%8%5&3), 2) + digits(int(o%4), 4)
		if kind>>8%4 == 0 {
			// A great k, by which few zeros are too many.
			text += "1111"
		}
		for j := range scramble(i+1<<42) % 120 {
			bit := 0
			if scramble(i<<10+j+1<<50)%(rare+1) == 0 {
				bit = 1
			}
			text += digits(bit, 1)
		}
		block, order := int(scramble(i+1<<43)%9), int(scramble(i+1<<44)%4)
		l, p, e, at := modelTake(text, block, order)
		errors[e]++
		take(t, text, block, order, l, p, e, text[at:])
		if e == api.OK {
			put(t, l, order, p, text[:at], api.OK)
		}
	}
	for _, e := range []api.Errno{api.OK, api.ErrArg, api.ErrShort, api.ErrForm, api.ErrKind, api.ErrWidth} {
		if errors[e] < 50 {
			t.Errorf("%v was told %d times", e, errors[e])
		}
	}
}

// R5, R6: what is handed in is not changed, nor what stands behind it in its memory; asked again, the answers are the same, whatever was done to the ones before.
func TestHandedIn(t *testing.T) {
	long := []int{0, -1, 3, -4, 0, 0, 77, 78}
	ways := []api.Part{{K: 1}, {K: 3, Raw: true}, {K: 99}}
	keptLong, keptWays := slices.Clone(long), slices.Clone(ways)
	l, p := long[:6], api.Plan{Order: 1, Parts: ways[:2]}
	text := tight("00 0001 0001 1 0 1 1 1111 00011 011 100 000 000")
	for range 3 {
		for _, c := range []struct {
			order int
			p     api.Plan
		}{{2, p}, {3, p}, {0, api.Plan{Parts: ways[:1]}}, {0, api.Plan{Parts: ways[1:2]}}} {
			Put(bits.New(), l, c.order, c.p)
			if !slices.Equal(long, keptLong) || !slices.Equal(ways, keptWays) {
				t.Fatal(long, ways)
			}
		}
		w := bits.New()
		if e := Put(w, l, 2, p); e != api.OK {
			t.Fatal(e)
		}
		// What is done to the lists behind the call is nothing to the writer.
		long[0], ways[0] = 5, api.Part{K: 5}
		if got := told(w); got != text {
			t.Fatal(got)
		}
		long[0], ways[0] = keptLong[0], keptWays[0]
		got, q, e := Take(opened(text), 8, 2)
		again, other, f := Take(opened(text), 8, 2)
		if e != api.OK || !slices.Equal(got, l) || !same(q, p) {
			t.Fatal(got, q, e)
		}
		clear(got)
		clear(q.Parts)
		if f != api.OK || !slices.Equal(again, l) || !same(other, p) {
			t.Fatal(again, other, f)
		}
	}
}

// P15.1, P15.3: any numbers that are near, and any parts.
func FuzzPut(f *testing.F) {
	f.Add([]byte{0, 0, 0, 0, 2, 0}, 0, 0, false, []byte{0})
	f.Add([]byte{0, 0, 0, 0, 2, 0, 255, 255, 255, 255, 255, 1}, 0, 1, true, []byte{3, 64})
	f.Add([]byte{0, 0, 0, 0, 0, 0, 255, 255, 255, 255, 255, 30}, 2, 1, true, []byte{30, 5})
	f.Fuzz(func(t *testing.T, b []byte, order, o int, wide bool, ways []byte) {
		var l []int
		for ; len(b) >= 6 && len(l) < 100; b = b[6:] {
			// Of the last byte but one the lowest two bits tell the highest ones of a number of 34 bits; the last one tells how near to 0 that is.
			n := int(binary.LittleEndian.Uint32(b)) | int(b[4]&3)<<32
			l = append(l, (n-1<<33)>>(b[5]%40))
		}
		p := api.Plan{Wide: wide, Order: o}
		for _, way := range ways {
			p.Parts = append(p.Parts, api.Part{K: int(way & 63), Raw: way&64 != 0})
		}
		text, e := modelPut(l, order, p)
		put(t, l, order, p, text, e)
		if e != api.OK {
			return
		}
		numbers, q, e, at := modelTake(text, len(l)+order, order)
		take(t, text, len(l)+order, order, numbers, q, e, text[at:])
		if e == api.OK && (!slices.Equal(numbers, l) || !same(p, q)) {
			t.Errorf("%v, %d, %v: %v, %v", l, order, p, numbers, q)
		}
	})
}

// P15.2: any bytes at all.
func FuzzTake(f *testing.F) {
	f.Add([]byte{0x00, 0x3f}, 2, 0)
	f.Add([]byte{0x43, 0xdf, 0xff, 0xff, 0xff, 0xe0}, 1, 0)
	f.Add([]byte{0x04, 0xd3, 0xe3, 0x70, 0x00}, 8, 2)
	f.Add([]byte{0x80}, 8, 0)
	f.Fuzz(func(t *testing.T, b []byte, block, order int) {
		w := bits.New()
		for _, n := range b {
			w.Put(uint64(n), 8)
		}
		text := told(w)
		l, p, e, at := modelTake(text, block, order)
		take(t, text, block, order, l, p, e, text[at:])
	})
}
