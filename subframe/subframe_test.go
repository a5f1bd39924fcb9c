package subframe

import (
	"encoding/binary"
	"math"
	"slices"
	"strings"
	"testing"

	"serinette/api"
	"serinette/bits"
	"serinette/parts"
	"serinette/rice"
	"serinette/section"
)

// tight is a text of bits without the blanks that make it legible.
func tight(s string) string { return strings.ReplaceAll(s, " ", "") }

// digits is the lowest bits of a number as a text.
func digits(n, width int) string {
	var s strings.Builder
	for i := width - 1; i >= 0; i-- {
		s.WriteByte('0' + byte(n>>i&1))
	}
	return s.String()
}

// zeros is so many bits 0 as a text, ones so many bits 1.
func zeros(many int) string { return strings.Repeat("0", many) }
func ones(many int) string  { return strings.Repeat("1", many) }

// lay puts a text behind what is in a writer.
func lay(w *bits.Writer, s string) {
	for i := range len(s) {
		w.Put(uint64(s[i]-'0'), 1)
	}
}

// told is all bits of a writer as a text.
func told(w *bits.Writer) string {
	b := w.Bytes()
	var s strings.Builder
	for i := range w.Len() {
		s.WriteByte('0' + b[i/8]>>(7-i%8)&1)
	}
	return s.String()
}

// opened is a reader of which just the bits of a text are left, however many these are.
func opened(s string) *bits.Reader {
	w := bits.New()
	ahead := -len(s) & 7
	w.Put(1, ahead)
	lay(w, s)
	r := bits.Open(w.Bytes())
	r.Take(ahead)
	return r
}

// rest is what a reader has left, as a text; it takes all of it.
func rest(r *bits.Reader) string {
	var s strings.Builder
	for r.Left() > 0 && r.Fail() == api.OK {
		s.WriteByte('0' + byte(r.Take(1)))
	}
	return s.String()
}

// floored is n divided by 2^down, rounded down.
func floored(n, down int) int {
	by := 1 << down
	if n%by < 0 {
		return n/by - 1
	}
	return n / by
}

// modelFactors are the factors of a predictor, and by how many bits its sums go down, by the words of chapters 7 and 12.
func modelFactors(s api.Subframe) ([]int, int) {
	if s.Kind == api.Linear {
		return s.Lpc.Factors, s.Lpc.Shift
	}
	return [][]int{{}, {1}, {2, -1}, {3, -3, 1}, {4, -6, 4, -1}}[s.Order], 0
}

// foretold is what the number behind all of x is foretold as.
func foretold(x []int, s api.Subframe) int {
	factors, shift := modelFactors(s)
	sum := 0
	for i, factor := range factors {
		sum += factor * x[len(x)-1-i]
	}
	return floored(sum, shift)
}

// inDepth tells whether a number is in a depth.
func inDepth(n, depth int) bool {
	return n >= -(1<<(depth-1)) && n <= 1<<(depth-1)-1
}

// modelOrder is how many factors there are.
func modelOrder(s api.Subframe) int {
	switch s.Kind {
	case api.Fixed:
		return s.Order
	case api.Linear:
		return len(s.Lpc.Factors)
	}
	return 0
}

// modelRest is what Rest must tell, by the chapter's words.
func modelRest(x []int, s api.Subframe) ([]int, api.Errno) {
	switch s.Kind {
	case api.Constant, api.Verbatim:
		return nil, api.OK
	case api.Fixed:
		if s.Order < 0 || s.Order > 4 {
			return nil, api.ErrArg
		}
	case api.Linear:
		l, order := s.Lpc, len(s.Lpc.Factors)
		if order < 1 || order > 32 || l.Precision < 1 || l.Precision > 15 || l.Shift < 0 || l.Shift > 15 {
			return nil, api.ErrArg
		}
		for _, factor := range l.Factors {
			if !inDepth(factor, l.Precision) {
				return nil, api.ErrArg
			}
		}
	default:
		return nil, api.ErrArg
	}
	order := modelOrder(s)
	if len(x) < order {
		return nil, api.ErrShort
	}
	var y, left []int
	for i, n := range x {
		n = floored(n, max(0, min(32, s.Wasted)))
		if i >= order {
			left = append(left, n-foretold(y, s))
		}
		y = append(y, n)
	}
	for _, n := range left {
		if n <= -1<<31 || n >= 1<<31 {
			return nil, api.ErrWidth
		}
	}
	return left, api.OK
}

// modelPut is what Put must lay, by the chapter's words.
func modelPut(x []int, s api.Subframe, depth int) (string, api.Errno) {
	if depth < 4 || depth > 33 || len(x) < 1 || len(x) > 65535 || s.Kind < 0 || s.Kind > 3 || s.Wasted < 0 || s.Wasted > depth-1 {
		return "", api.ErrArg
	}
	for _, n := range x {
		if !inDepth(n, depth) || n%(1<<s.Wasted) != 0 {
			return "", api.ErrRange
		}
	}
	for _, n := range x {
		if s.Kind == api.Constant && n != x[0] {
			return "", api.ErrForm
		}
	}
	left, e := modelRest(x, s)
	if e != api.OK {
		return "", e
	}
	behind := bits.New()
	if s.Kind == api.Fixed || s.Kind == api.Linear {
		// That chapter's Put tells ErrArg of the plans that can't be.
		if e := section.Put(behind, left, modelOrder(s), s.Plan); e != api.OK {
			return "", e
		}
	}
	wasted := "0"
	if s.Wasted > 0 {
		wasted = "1" + zeros(s.Wasted-1) + "1"
	}
	numbers := ""
	plain := []int{1, len(x), modelOrder(s), modelOrder(s)}[s.Kind]
	for _, n := range x[:plain] {
		numbers += digits(n>>s.Wasted, depth-s.Wasted)
	}
	switch s.Kind {
	case api.Constant:
		return "0 000000 " + wasted + numbers, api.OK
	case api.Verbatim:
		return "0 000001 " + wasted + numbers, api.OK
	case api.Fixed:
		return "0" + digits(8+s.Order, 6) + wasted + numbers + told(behind), api.OK
	}
	factors := ""
	for _, factor := range s.Lpc.Factors {
		factors += digits(factor, s.Lpc.Precision)
	}
	return "0" + digits(31+len(s.Lpc.Factors), 6) + wasted + numbers + digits(s.Lpc.Precision-1, 4) + digits(s.Lpc.Shift, 5) + factors + told(behind), api.OK
}

// modelText takes numbers from a text.
type modelText struct {
	text  string
	at    int
	short bool
}

// take is the next number, from the highest bit on.
func (m *modelText) take(width int) int {
	if m.short || m.at+width > len(m.text) {
		m.short = true
		return 0
	}
	n := 0
	for range width {
		n = 2*n + int(m.text[m.at]-'0')
		m.at++
	}
	return n
}

// signed is the next number, with a sign.
func (m *modelText) signed(width int) int {
	n := m.take(width)
	if n >= 1<<(width-1) {
		n -= 1 << width
	}
	return n
}

// head is a subframe by all that stands ahead of its numbers.
func (m *modelText) head(depth int) (api.Subframe, api.Errno) {
	var s api.Subframe
	if m.take(1) == 1 {
		return s, api.ErrForm
	}
	n := m.take(6)
	if m.short {
		return s, api.ErrShort
	}
	switch {
	case n == 0 || n == 1:
		s.Kind = n
	case n >= 8 && n <= 12:
		s.Kind, s.Order = api.Fixed, n-8
	case n >= 32:
		s.Kind, s.Lpc.Factors = api.Linear, make([]int, n-31)
	default:
		return s, api.ErrKind
	}
	if m.take(1) == 1 {
		s.Wasted = 1
		for !m.short && m.take(1) == 0 {
			s.Wasted++
			if s.Wasted >= depth && !m.short {
				return s, api.ErrForm
			}
		}
	}
	if m.short {
		return s, api.ErrShort
	}
	return s, api.OK
}

// modelTake is what Take must tell of a text, and how many of its bits it must have taken, by the chapter's words.
func modelTake(text string, block, depth int) ([]int, api.Subframe, api.Errno, int) {
	m := &modelText{text: text}
	fail := func(e api.Errno) ([]int, api.Subframe, api.Errno, int) { return nil, api.Subframe{}, e, m.at }
	if depth < 4 || depth > 33 || block < 1 || block > 65535 {
		return fail(api.ErrArg)
	}
	s, e := m.head(depth)
	order := modelOrder(s)
	if e == api.OK && order >= block {
		e = api.ErrForm
	}
	if e != api.OK {
		return fail(e)
	}
	deep := depth - s.Wasted
	var x []int
	for range []int{1, block, order, order}[s.Kind] {
		x = append(x, m.signed(deep))
	}
	if s.Kind == api.Linear {
		s.Lpc.Precision = m.take(4) + 1
		if s.Lpc.Precision == 16 {
			return fail(api.ErrForm)
		}
		s.Lpc.Shift = m.take(5)
		if s.Lpc.Shift > 15 {
			return fail(api.ErrForm)
		}
		for i := range s.Lpc.Factors {
			s.Lpc.Factors[i] = m.signed(s.Lpc.Precision)
		}
	}
	if m.short {
		return fail(api.ErrShort)
	}
	if s.Kind == api.Constant {
		x = slices.Repeat(x, block)
	}
	if s.Kind == api.Fixed || s.Kind == api.Linear {
		r := opened(text[m.at:])
		left, p, e := section.Take(r, block, order)
		m.at = len(text) - r.Left()
		if e != api.OK {
			return fail(e)
		}
		s.Plan = p
		for _, n := range left {
			n += foretold(x, s)
			if !inDepth(n, deep) {
				return fail(api.ErrRange)
			}
			x = append(x, n)
		}
	}
	for i := range x {
		x[i] *= 1 << s.Wasted
	}
	return x, s, api.OK, m.at
}

// same tells whether two subframes are alike in all fields.
func same(a, b api.Subframe) bool {
	return a.Kind == b.Kind && a.Wasted == b.Wasted && a.Order == b.Order &&
		a.Lpc.Shift == b.Lpc.Shift && a.Lpc.Precision == b.Lpc.Precision && slices.Equal(a.Lpc.Factors, b.Lpc.Factors) &&
		a.Plan.Wide == b.Plan.Wide && a.Plan.Order == b.Plan.Order && slices.Equal(a.Plan.Parts, b.Plan.Parts)
}

// meant is a subframe with nothing in the fields that are nothing to its kind.
func meant(s api.Subframe) api.Subframe {
	m := api.Subframe{Kind: s.Kind, Wasted: s.Wasted}
	switch s.Kind {
	case api.Fixed:
		m.Order, m.Plan = s.Order, s.Plan
	case api.Linear:
		m.Lpc, m.Plan = s.Lpc, s.Plan
	}
	return m
}

// put holds what Put lays, and what it and Bits tell, against what they must, behind what may be in a writer; of an error nothing is laid.
func put(t *testing.T, x []int, s api.Subframe, depth int, want string, e api.Errno) {
	t.Helper()
	want = tight(want)
	many, f := Bits(x, s, depth)
	// What is too long to be laid has its bits nevertheless.
	if e != api.ErrLong && (f != e || many != len(want)) || e == api.ErrLong && (f != api.OK || many < 65536) {
		t.Fatalf("%.20v, %v, %d: %d bits and %v, not %d and %v", x, s, depth, many, f, len(want), e)
	}
	for _, ahead := range []string{"", "1", "0110101", "10000000", "111111111"} {
		w := bits.New()
		lay(w, ahead)
		if got := Put(w, x, s, depth); got != e {
			t.Fatalf("%.20v, %v, %d: %v, not %v", x, s, depth, got, e)
		}
		if got := told(w); got != ahead+want {
			t.Fatalf("%.20v, %v, %d: %.300s, not %.300s", x, s, depth, got, ahead+want)
		}
		// What comes behind it stands just there.
		w.Put(5, 3)
		if got := told(w); got != ahead+want+"101" {
			t.Fatalf("%.20v, %v, %d: %.300s, not %.300s and 101", x, s, depth, got, ahead+want)
		}
	}
}

// refuses holds an error of Put and Bits against what it must be.
func refuses(t *testing.T, x []int, s api.Subframe, depth int, e api.Errno) {
	t.Helper()
	put(t, x, s, depth, "", e)
}

// takes holds what Take tells against what it must, and what it leaves in the reader; with an error all else is nothing.
func takes(t *testing.T, text string, block, depth int, x []int, s api.Subframe, e api.Errno, left string) {
	t.Helper()
	text, left = tight(text), tight(left)
	r := opened(text)
	gotX, gotS, gotE := Take(r, block, depth)
	if gotE != e || !slices.Equal(gotX, x) || !same(gotS, s) {
		t.Fatalf("%.300s, %d, %d: %.20v, %v, %v; not %.20v, %v, %v", text, block, depth, gotX, gotS, gotE, x, s, e)
	}
	if r.Left() != len(left) {
		t.Fatalf("%.300s, %d, %d: %d bits are left, not %d", text, block, depth, r.Left(), len(left))
	}
	// Where the reader failed it tells that; else it goes on.
	fail := api.OK
	if e == api.ErrShort {
		fail, left = api.ErrShort, ""
	}
	if got := r.Fail(); got != fail {
		t.Fatalf("%.300s, %d, %d: the reader has %v, not %v", text, block, depth, got, fail)
	}
	if got := rest(r); got != left {
		t.Fatalf("%.300s, %d, %d: %s is left, not %s", text, block, depth, got, left)
	}
}

// fails holds an error of Take against what it must be, and what is left behind it.
func fails(t *testing.T, text string, block, depth int, e api.Errno, left string) {
	t.Helper()
	takes(t, text, block, depth, nil, api.Subframe{}, e, left)
}

// both holds Put, Bits, and Take of what was put, with bits behind it, against what must stand there.
func both(t *testing.T, x []int, s api.Subframe, depth int, want string) {
	t.Helper()
	put(t, x, s, depth, want, api.OK)
	for _, behind := range []string{"", "0", "1", "0101", "11111111", "0000000000000000"} {
		takes(t, want+behind, len(x), depth, x, meant(s), api.OK, behind)
	}
}

// model holds Put, Bits and Take against the models.
func model(t *testing.T, x []int, s api.Subframe, depth int) {
	t.Helper()
	want, e := modelPut(x, s, depth)
	if e != api.OK {
		refuses(t, x, s, depth, e)
		return
	}
	both(t, x, s, depth, want)
}

// anyText holds Take of any text against the model.
func anyText(t *testing.T, text string, block, depth int) api.Errno {
	t.Helper()
	text = tight(text)
	x, s, e, at := modelTake(text, block, depth)
	takes(t, text, block, depth, x, s, e, text[at:])
	return e
}

// byK is a plan of one part, written by k.
func byK(k int) api.Plan { return api.Plan{Parts: []api.Part{{K: k}}} }

// wideK is such a plan whose k may be wide.
func wideK(k int) api.Plan { return api.Plan{Wide: true, Parts: []api.Part{{K: k}}} }

// raw is a plan of one part, written with so many bits each.
func raw(k int) api.Plan { return api.Plan{Parts: []api.Part{{K: k, Raw: true}}} }

// ofFixed is a subframe by a predictor that is fixed.
func ofFixed(order, wasted int, p api.Plan) api.Subframe {
	return api.Subframe{Kind: api.Fixed, Wasted: wasted, Order: order, Plan: p}
}

// ofLinear is one by a predictor with factors.
func ofLinear(wasted, precision, shift int, factors []int, p api.Plan) api.Subframe {
	return api.Subframe{Kind: api.Linear, Wasted: wasted, Lpc: api.Lpc{Shift: shift, Precision: precision, Factors: factors}, Plan: p}
}

// filled is many times the same number.
func filled(many, n int) []int { return slices.Repeat([]int{n}, many) }

// scramble makes numbers that look unruly, always the same ones.
func scramble(n uint64) uint64 {
	n = (n + 1) * 0x9e3779b97f4a7c15
	n = (n ^ n>>31) * 0xbf58476d1ce4e5b9
	return n ^ n>>29
}

// unruly are numbers of so many bits each, with a sign.
func unruly(many, width int, seed uint64) []int {
	l := make([]int, many)
	for i := range l {
		if width > 0 {
			l[i] = int(scramble(seed<<20+uint64(i))) >> (64 - width)
		}
	}
	return l
}

// smooth are numbers in a depth, all multiples of 2^wasted, that go on from each other.
func smooth(many, depth, wasted int, seed uint64) []int {
	deep := depth - wasted
	steps := unruly(many, max(0, deep-3), seed)
	x := make([]int, many)
	n, step := 0, 0
	for i := range x {
		step = (3*step + steps[i]) / 4
		n = max(-1<<(deep-1), min(1<<(deep-1)-1, n+step))
		x[i] = n << wasted
	}
	return x
}

// P16.2, P16.3, P16.4: the chapter's example.
func TestExample(t *testing.T) {
	x, s := []int{-1, -1}, api.Subframe{Kind: api.Constant}
	both(t, x, s, 8, "0 000000 0 11111111")
	w := bits.New()
	if e := Put(w, x, s, 8); e != api.OK || !slices.Equal(w.Bytes(), []byte{0x00, 0xff}) || w.Len() != 16 {
		t.Error(e, w.Bytes(), w.Len())
	}
	if many, e := Bits(x, s, 8); many != 16 || e != api.OK {
		t.Error(many, e)
	}
	r := bits.Open([]byte{0x00, 0xff})
	if got, q, e := Take(r, 2, 8); e != api.OK || !slices.Equal(got, x) || !same(q, s) || r.End() != api.OK {
		t.Error(got, q, e, r.Left())
	}
	if Deepest != 33 {
		t.Error(Deepest)
	}
}

// rests holds what Rest tells against what it must, and against the model.
func rests(t *testing.T, x []int, s api.Subframe, want []int, e api.Errno) {
	t.Helper()
	got, f := Rest(x, s)
	if f != e || !slices.Equal(got, want) {
		t.Fatalf("%.20v, %v: %.20v and %v, not %.20v and %v", x, s, got, f, want, e)
	}
	if model, f := modelRest(x, s); f != e || !slices.Equal(model, want) {
		t.Fatalf("%.20v, %v: the model has %.20v and %v, not %.20v and %v", x, s, model, f, want, e)
	}
}

// P16.1: of each kind, and of a kind below the first and above the last one.
func TestRestKinds(t *testing.T) {
	x := []int{1, 4, 9, 16, 25}
	none := api.Lpc{}
	two := api.Lpc{Precision: 3, Factors: []int{2, -1}}
	for _, order := range []int{-1, 0, 2, 5, 99} {
		// What is nothing to the kind is not asked.
		for _, l := range []api.Lpc{none, two, {Shift: -1, Precision: 99}} {
			for _, wasted := range []int{-1, 0, 1, 33} {
				rests(t, x, api.Subframe{Kind: api.Constant, Wasted: wasted, Order: order, Lpc: l}, nil, api.OK)
				rests(t, x, api.Subframe{Kind: api.Verbatim, Wasted: wasted, Order: order, Lpc: l}, nil, api.OK)
				for _, kind := range []int{math.MinInt, -4, -3, -2, -1, 4, 5, 6, 7, 1 << 32, 1<<32 + 2, math.MaxInt} {
					rests(t, x, api.Subframe{Kind: kind, Wasted: wasted, Order: order, Lpc: l}, nil, api.ErrArg)
				}
			}
		}
		rests(t, x, api.Subframe{Kind: api.Linear, Order: order, Lpc: two}, []int{2, 2, 2}, api.OK)
	}
	for _, l := range []api.Lpc{none, two, {Shift: -1, Precision: 99}} {
		for order, want := range [][]int{x, {3, 5, 7, 9}, {2, 2, 2}, {0, 0}, {0}} {
			rests(t, x, api.Subframe{Kind: api.Fixed, Order: order, Lpc: l}, want, api.OK)
		}
	}
	// Of a plan nothing is asked, either.
	for _, p := range []api.Plan{{}, byK(-1), {Order: -1}, {Order: 9}} {
		rests(t, x, ofFixed(2, 0, p), []int{2, 2, 2}, api.OK)
		rests(t, x, ofLinear(0, 4, 1, []int{4}, p), []int{2, 1, -2, -7}, api.OK)
	}
	// Of no numbers, and of more than a block has.
	for _, x := range [][]int{nil, {}} {
		rests(t, x, api.Subframe{Kind: api.Constant}, nil, api.OK)
		rests(t, x, api.Subframe{Kind: api.Verbatim}, nil, api.OK)
		rests(t, x, ofFixed(0, 0, api.Plan{}), nil, api.OK)
		rests(t, x, ofFixed(1, 0, api.Plan{}), nil, api.ErrShort)
		rests(t, x, ofLinear(0, 4, 0, []int{1}, api.Plan{}), nil, api.ErrShort)
	}
	rests(t, filled(65537, 9), ofFixed(1, 0, api.Plan{}), filled(65536, 0), api.OK)
	rests(t, filled(65537, 9), ofLinear(0, 2, 0, []int{1}, api.Plan{}), filled(65536, 0), api.OK)
}

// P16.1: Wasted below 0, 0, up to 32 and above: numbers are divided, and rounded down.
func TestRestWasted(t *testing.T) {
	x := []int{-9, -8, -7, -5, -4, -3, -1, 0, 1, 3, 4, 7, 8}
	one := api.Lpc{Precision: 1, Factors: []int{0}}
	for wasted, want := range map[int][]int{
		-1: x, 0: x, math.MinInt: x,
		1: {-5, -4, -4, -3, -2, -2, -1, 0, 0, 1, 2, 3, 4},
		2: {-3, -2, -2, -2, -1, -1, -1, 0, 0, 0, 1, 1, 2},
		3: {-2, -1, -1, -1, -1, -1, -1, 0, 0, 0, 0, 0, 1},
		4: {-1, -1, -1, -1, -1, -1, -1, 0, 0, 0, 0, 0, 0},
	} {
		rests(t, x, api.Subframe{Kind: api.Fixed, Wasted: wasted}, want, api.OK)
		rests(t, x, api.Subframe{Kind: api.Linear, Wasted: wasted, Lpc: one}, want[1:], api.OK)
	}
	// 32 is held, more is held there.
	deep := []int{-1 << 40, -1<<33 - 1, -1 << 33, -1<<33 + 1, -1<<32 - 1, -1 << 32, -1<<32 + 1, -1, 0, 1<<32 - 1, 1 << 32, 1<<33 - 1, 1 << 33, 1 << 40}
	down := []int{-256, -3, -2, -2, -2, -1, -1, -1, 0, 0, 1, 1, 2, 256}
	for _, wasted := range []int{32, 33, 34, 63, 64, 65, 1 << 32, math.MaxInt} {
		rests(t, deep, api.Subframe{Kind: api.Fixed, Wasted: wasted}, down, api.OK)
		rests(t, deep, api.Subframe{Kind: api.Linear, Wasted: wasted, Lpc: one}, down[1:], api.OK)
	}
	half := []int{-512, -5, -4, -4, -3, -2, -2, -1, 0, 1, 2, 3, 4, 512}
	rests(t, deep, api.Subframe{Kind: api.Fixed, Wasted: 31}, half, api.OK)
	rests(t, deep, api.Subframe{Kind: api.Linear, Wasted: 31, Lpc: one}, half[1:], api.OK)
	// They are divided ahead of the predictor, not behind it: of the order 1 by 2 bits.
	rests(t, []int{3, 4, 7, 9, -1}, ofFixed(1, 2, api.Plan{}), []int{1, 0, 1, -3}, api.OK)
	rests(t, []int{3, 4, 7, 9, -1}, ofLinear(2, 2, 0, []int{1}, api.Plan{}), []int{1, 0, 1, -3}, api.OK)
}

// P16.1: chapter 7's and chapter 12's errors.
func TestRestErrors(t *testing.T) {
	x := []int{1, 2, 3}
	for _, order := range []int{math.MinInt, -1, 5, 6, 1 << 32, math.MaxInt} {
		rests(t, x, ofFixed(order, 0, byK(0)), nil, api.ErrArg)
		rests(t, nil, ofFixed(order, 0, byK(0)), nil, api.ErrArg)
	}
	rests(t, x, ofFixed(4, 0, byK(0)), nil, api.ErrShort)
	rests(t, x, ofFixed(3, 0, byK(0)), nil, api.OK)
	for _, l := range []api.Lpc{
		{Precision: 4}, {Precision: 4, Factors: make([]int, 33)},
		{Precision: 0, Factors: []int{0}}, {Precision: 16, Factors: []int{0}}, {Precision: -1, Factors: []int{0}},
		{Precision: 4, Shift: -1, Factors: []int{0}}, {Precision: 4, Shift: 16, Factors: []int{0}},
		{Precision: 4, Factors: []int{8}}, {Precision: 4, Factors: []int{0, -9}}, {Precision: 1, Factors: []int{1}},
	} {
		rests(t, x, api.Subframe{Kind: api.Linear, Lpc: l}, nil, api.ErrArg)
		rests(t, nil, api.Subframe{Kind: api.Linear, Lpc: l}, nil, api.ErrArg)
	}
	rests(t, x, ofLinear(0, 4, 0, make([]int, 4), byK(0)), nil, api.ErrShort)
	rests(t, x, ofLinear(0, 4, 0, make([]int, 3), byK(0)), nil, api.OK)
}

// P16.1: a number that is left of -2^31 and of 2^31, and of one nearer to 0, wherever it stands.
func TestRestWidth(t *testing.T) {
	zero := api.Lpc{Precision: 1, Factors: []int{0}}
	for place := 1; place < 4; place++ {
		for _, n := range []int{1<<31 - 1, -1<<31 + 1} {
			x := filled(4, 0)
			x[place] = n
			rests(t, x, ofFixed(0, 0, byK(0)), x, api.OK)
			rests(t, x, api.Subframe{Kind: api.Linear, Lpc: zero}, x[1:], api.OK)
		}
		for _, n := range []int{1 << 31, -1 << 31, 1<<31 + 1, -1<<31 - 1, 1 << 32, -1 << 32, 1 << 40, -1 << 40} {
			x := filled(4, 0)
			x[place] = n
			rests(t, x, ofFixed(0, 0, byK(0)), nil, api.ErrWidth)
			rests(t, x, api.Subframe{Kind: api.Linear, Lpc: zero}, nil, api.ErrWidth)
			// Divided it is near enough.
			x[place] = n << 10
			want := filled(4, 0)
			want[place] = n >> 10
			rests(t, x, ofFixed(0, 20, byK(0)), want, api.OK)
			rests(t, x, api.Subframe{Kind: api.Linear, Wasted: 20, Lpc: zero}, want[1:], api.OK)
		}
	}
	// Differences of numbers that are near enough themselves.
	rests(t, []int{-1 << 30, 1<<30 - 1}, ofFixed(1, 0, byK(0)), []int{1<<31 - 1}, api.OK)
	rests(t, []int{-1 << 30, 1 << 30}, ofFixed(1, 0, byK(0)), nil, api.ErrWidth)
	rests(t, []int{1 << 30, -1<<30 + 1}, ofFixed(1, 0, byK(0)), []int{-1<<31 + 1}, api.OK)
	rests(t, []int{1 << 30, -1 << 30}, ofFixed(1, 0, byK(0)), nil, api.ErrWidth)
	rests(t, []int{0, 1 << 29, 0}, ofFixed(2, 0, byK(0)), []int{-1 << 30}, api.OK)
	rests(t, []int{1 << 28, -1 << 28, 1 << 28, -1 << 28, 1<<28 - 1}, ofFixed(4, 0, byK(0)), nil, api.ErrWidth)
	rests(t, []int{1 << 27, -1 << 27, 1 << 27, -1 << 27, 1<<27 - 1}, ofFixed(4, 0, byK(0)), []int{1<<31 - 1}, api.OK)
	rests(t, []int{-1 << 27, 1 << 27, -1 << 27, 1 << 27, -1 << 27}, ofFixed(4, 0, byK(0)), nil, api.ErrWidth)
	rests(t, []int{1 << 20, 0}, ofLinear(0, 15, 0, []int{2048}, byK(0)), nil, api.ErrWidth)
	rests(t, []int{1 << 20, 1}, ofLinear(0, 15, 0, []int{2048}, byK(0)), []int{-1<<31 + 1}, api.OK)
	rests(t, []int{-1 << 20, 0}, ofLinear(0, 15, 0, []int{2048}, byK(0)), nil, api.ErrWidth)
	rests(t, []int{-1 << 20, -1}, ofLinear(0, 15, 0, []int{2048}, byK(0)), []int{1<<31 - 1}, api.OK)
	rests(t, []int{1 << 20, 0}, ofLinear(0, 15, 1, []int{2048}, byK(0)), []int{-1 << 30}, api.OK)
}

// P16.1: unruly numbers, by each predictor and Wasted, against the model.
func TestRestModel(t *testing.T) {
	for i := range uint64(600) {
		x := unruly(int(i%50), int(i%41), i)
		for order := -1; order < 6; order++ {
			s := ofFixed(order, int(i%11)-1, byK(0))
			want, e := modelRest(x, s)
			rests(t, x, s, want, e)
		}
		precision := int(i % 17)
		s := ofLinear(int(i%37)-2, precision, int(i%18)-1, unruly(int(i%35), precision, i+1<<20), byK(0))
		want, e := modelRest(x, s)
		rests(t, x, s, want, e)
	}
}

// R5: what Rest answers is memory of its own.
func TestRestOwn(t *testing.T) {
	x := []int{4, 8, -4}
	for _, s := range []api.Subframe{ofFixed(0, 0, byK(0)), ofFixed(1, 0, byK(0)), ofFixed(0, 2, byK(0)), ofLinear(0, 2, 0, []int{1}, byK(0))} {
		left, e := Rest(x, s)
		if e != api.OK {
			t.Fatal(e)
		}
		for i := range left {
			left[i] = 99
		}
		if !slices.Equal(x, []int{4, 8, -4}) {
			t.Fatal(x)
		}
	}
}

// P16.2 to P16.4: subframes that are written out by hand: of each kind, with Wasted 0, 1 and more.
func TestByHand(t *testing.T) {
	x := []int{4, 8, 12, 16, 20, 16}
	both(t, filled(3, 40), api.Subframe{}, 8, "0 000000 0 00101000")
	both(t, filled(3, 40), api.Subframe{Wasted: 1}, 8, "0 000000 1 1 0010100")
	both(t, filled(3, -40), api.Subframe{Wasted: 3}, 8, "0 000000 1 001 11011")
	both(t, filled(1, 0), api.Subframe{Wasted: 7}, 8, "0 000000 1 0000001 0")
	both(t, filled(1, -128), api.Subframe{Wasted: 7}, 8, "0 000000 1 0000001 1")
	both(t, x, api.Subframe{Kind: api.Verbatim}, 8, "0 000001 0 00000100 00001000 00001100 00010000 00010100 00010000")
	both(t, x, api.Subframe{Kind: api.Verbatim, Wasted: 1}, 8, "0 000001 1 1 0000010 0000100 0000110 0001000 0001010 0001000")
	both(t, x, api.Subframe{Kind: api.Verbatim, Wasted: 2}, 8, "0 000001 1 01 000001 000010 000011 000100 000101 000100")
	both(t, []int{-4, 0, 4, -8}, api.Subframe{Kind: api.Verbatim, Wasted: 2}, 4, "0 000001 1 01 11 00 01 10")
	both(t, []int{5}, api.Subframe{Kind: api.Verbatim}, 4, "0 000001 0 0101")
	// What is left by k 1 and by k 3; the higher part's bits 0, a bit 1, the lower bits.
	both(t, []int{1, -2, 0}, ofFixed(0, 0, byK(1)), 4, "0 001000 0 00 0000 0001 01 0 01 1 1 0")
	both(t, x, ofFixed(1, 2, byK(1)), 8, "0 001001 1 01 000001 00 0000 0001 01 0 01 0 01 0 01 0 1 1")
	both(t, x, ofFixed(2, 0, byK(3)), 8, "0 001010 0 00000100 00001000 00 0000 0011 1 000 1 000 1 000 01 111")
	both(t, x, ofFixed(2, 2, byK(1)), 8, "0 001010 1 01 000001 000010 00 0000 0001 1 0 1 0 1 0 01 1")
	both(t, x, ofFixed(2, 1, wideK(2)), 8, "0 001010 1 1 0000010 0000100 01 0000 00010 1 00 1 00 1 00 01 11")
	both(t, x, ofFixed(3, 2, byK(1)), 8, "0 001011 1 01 000001 000010 000011 00 0000 0001 1 0 1 0 01 1")
	both(t, x, ofFixed(4, 2, raw(2)), 8, "0 001100 1 01 000001 000010 000011 000100 00 0000 1111 00010 00 10")
	both(t, x, ofFixed(0, 2, api.Plan{Order: 1, Parts: []api.Part{{K: 4, Raw: true}, {K: 2}}}), 8, "0 001000 1 01 00 0001 1111 00100 0001 0010 0011 0010 001 00 001 10 001 00")
	both(t, x, ofFixed(2, 2, api.Plan{Order: 1, Parts: []api.Part{{}, {K: 1}}}), 8, "0 001010 1 01 000001 000010 00 0001 0000 1 0001 1 0 1 0 01 1")
	// With factors.
	two := []int{2, -1}
	both(t, x, ofLinear(0, 3, 0, two, byK(3)), 8, "0 100001 0 00000100 00001000 0010 00000 010 111 00 0000 0011 1 000 1 000 1 000 01 111")
	both(t, x, ofLinear(2, 3, 0, two, byK(1)), 8, "0 100001 1 01 000001 000010 0010 00000 010 111 00 0000 0001 1 0 1 0 1 0 01 1")
	both(t, x, ofLinear(1, 15, 15, []int{16384 - 1, 3, -16384}, raw(6)), 8, "0 100010 1 1 0000010 0000100 0000110 1110 01111 011111111111111 000000000000011 100000000000000 00 0000 1111 00110 000110 001000 000110")
	both(t, []int{1, 2, 4, 8, 16}, ofLinear(0, 4, 1, []int{4}, byK(0)), 6, "0 100000 0 000001 0011 00001 0100 00 0000 0000 1 1 1 1")
	both(t, []int{-3, 3, -3}, ofLinear(0, 1, 0, []int{-1}, byK(0)), 4, "0 100000 0 1101 0000 00000 1 00 0000 0000 1 1")
	both(t, []int{7, 0, 1}, ofLinear(0, 1, 0, []int{0, 0}, byK(0)), 4, "0 100001 0 0111 0000 0000 00000 0 0 00 0000 0000 001")
}

// P16.2 to P16.4: numbers have e bits, with their sign, whatever the depth and Wasted are: the least, the greatest, and those beside 0.
func TestDepths(t *testing.T) {
	for depth := 4; depth <= 33; depth++ {
		for wasted := range depth {
			e := depth - wasted
			ahead := "0"
			if wasted > 0 {
				ahead = "1" + zeros(wasted-1) + "1"
			}
			least, greatest := -1<<(depth-1), (1<<(e-1)-1)<<wasted
			x := []int{least, greatest, 0, -1 << wasted}
			text := "1" + zeros(e-1) + "0" + ones(e-1) + zeros(e) + ones(e)
			both(t, x, api.Subframe{Kind: api.Verbatim, Wasted: wasted}, depth, "0 000001"+ahead+text)
			for i, n := range x {
				both(t, filled(2, n), api.Subframe{Wasted: wasted}, depth, "0 000000"+ahead+text[i*e:][:e])
				// The first numbers of a predictor, behind which nothing differs.
				both(t, filled(2, n), ofFixed(1, wasted, byK(0)), depth, "0 001001"+ahead+text[i*e:][:e]+"00 0000 0000 1")
				both(t, []int{n, 0, 0, 0}, ofLinear(wasted, 1, 0, []int{0}, byK(0)), depth, "0 100000"+ahead+text[i*e:][:e]+"0000 00000 0 00 0000 0000 1 1 1")
			}
			both(t, append(x, 0, 0), ofLinear(wasted, 5, 7, make([]int, 4), raw(1)), depth, "0 100011"+ahead+text+"0100 00111 00000 00000 00000 00000 00 0000 1111 00001 0 0")
		}
	}
}

// P16.2 to P16.4: the fields that are nothing to a kind are not asked, not laid, and 0 in what is taken.
func TestOtherFields(t *testing.T) {
	lpc := api.Lpc{Shift: -1, Precision: 99, Factors: []int{1 << 40}}
	plan := api.Plan{Wide: true, Order: -3, Parts: []api.Part{{K: 99}}}
	both(t, []int{3, 3}, api.Subframe{Order: 99, Lpc: lpc, Plan: plan}, 8, "0 000000 0 00000011")
	both(t, []int{3, 4}, api.Subframe{Kind: api.Verbatim, Order: -1, Lpc: lpc, Plan: plan}, 8, "0 000001 0 00000011 00000100")
	both(t, []int{3, 3}, api.Subframe{Kind: api.Fixed, Order: 1, Lpc: lpc, Plan: byK(0)}, 8, "0 001001 0 00000011 00 0000 0000 1")
	for _, order := range []int{-1, 0, 3, 99} {
		both(t, []int{3, 3}, api.Subframe{Kind: api.Linear, Order: order, Lpc: api.Lpc{Precision: 2, Factors: []int{1}}, Plan: byK(0)}, 8, "0 100000 0 00000011 0001 00000 01 00 0000 0000 1")
	}
}

// P16.2 to P16.4: each order of Fixed.
func TestFixedOrders(t *testing.T) {
	for order := range 5 {
		x := filled(order+3, -5)
		text := "0" + digits(8+order, 6) + "0" + strings.Repeat("11011", order)
		if order == 0 {
			both(t, x, ofFixed(0, 0, byK(0)), 5, text+"00 0000 0000"+strings.Repeat("0000000001", 3))
		} else {
			both(t, x, ofFixed(order, 0, byK(0)), 5, text+"00 0000 0000 1 1 1")
		}
		model(t, []int{7, -8, 3, 0, -1, 7, 7, -8}, ofFixed(order, 0, byK(2)), 4)
		model(t, []int{7 << 9, -8 << 9, 3 << 9, 0, -1 << 9, 7 << 9, 7 << 9, -8 << 9}, ofFixed(order, 9, byK(2)), 13)
	}
}

// P16.2 to P16.4: each order of Linear, with each precision, and the least and the greatest shift and factors.
func TestLinearOrders(t *testing.T) {
	for order := 1; order <= 32; order++ {
		for precision := 1; precision <= 15; precision++ {
			least, greatest := -1<<(precision-1), 1<<(precision-1)-1
			for _, shift := range []int{0, 1, 14, 15} {
				factors := unruly(order, precision, uint64(order<<8+precision<<4+shift))
				factors[0], factors[order-1] = least, greatest
				ahead := "0" + digits(31+order, 6) + "0" + strings.Repeat("0001", order) + digits(precision-1, 4) + digits(shift, 5)
				for _, factor := range factors {
					ahead += digits(factor, precision)
				}
				x := filled(order+2, 1)
				s := ofLinear(0, precision, shift, factors, wideK(12))
				behind, _ := Rest(x, s)
				w := bits.New()
				section.Put(w, behind, order, s.Plan)
				both(t, x, s, 4, ahead+told(w))
			}
		}
	}
}

// P16.2, P16.3: a depth, a block, a kind and a Wasted that can't be, and those just beside that can.
func TestPutArg(t *testing.T) {
	kinds := []api.Subframe{{}, {Kind: api.Verbatim}, ofFixed(0, 0, byK(0)), ofLinear(0, 1, 0, []int{0}, byK(0))}
	x := filled(3, 0)
	for _, s := range kinds {
		for _, depth := range []int{math.MinInt, -1, 0, 1, 2, 3, 34, 35, 62, 63, 64, 1<<32 + 8, math.MaxInt} {
			refuses(t, x, s, depth, api.ErrArg)
		}
		for _, depth := range []int{4, 5, 32, 33} {
			model(t, x, s, depth)
			for _, wasted := range []int{math.MinInt, -2, -1, depth, depth + 1, 63, 64, 65, 1 << 32, math.MaxInt} {
				s.Wasted = wasted
				refuses(t, x, s, depth, api.ErrArg)
			}
			for _, wasted := range []int{0, 1, depth - 2, depth - 1} {
				s.Wasted = wasted
				model(t, x, s, depth)
			}
			s.Wasted = 0
		}
		for _, kind := range []int{math.MinInt, -2, -1, 4, 5, 1 << 32, 1<<32 + 1, math.MaxInt} {
			s.Kind = kind
			refuses(t, x, s, 8, api.ErrArg)
		}
	}
	for _, s := range kinds {
		refuses(t, nil, s, 8, api.ErrArg)
		refuses(t, []int{}, s, 8, api.ErrArg)
		refuses(t, filled(65536, 0), s, 8, api.ErrArg)
		refuses(t, filled(65537, 0), s, 8, api.ErrArg)
	}
	// Of one number, and of as many as a block has at most.
	both(t, []int{-3}, kinds[0], 8, "0 000000 0 11111101")
	both(t, []int{-3}, kinds[1], 8, "0 000001 0 11111101")
	both(t, []int{-1}, kinds[2], 8, "0 001000 0 00 0000 0000 01")
	both(t, []int{-3, 0}, kinds[3], 8, "0 100000 0 11111101 0000 00000 0 00 0000 0000 1")
	for _, many := range []int{65534, 65535} {
		both(t, filled(many, -3), kinds[0], 8, "0 000000 0 11111101")
		both(t, filled(many, -8), api.Subframe{Kind: api.Verbatim, Wasted: 3}, 4, "0 000001 1 001"+ones(many))
		both(t, filled(many, 0), ofFixed(4, 0, raw(0)), 4, "0 001100 0 0000 0000 0000 0000 00 0000 1111 00000")
		both(t, filled(many, 0), ofLinear(0, 1, 0, []int{0}, byK(0)), 4, "0 100000 0 0000 0000 00000 0 00 0000 0000"+ones(many-1))
	}
}

// P16.2, P16.3: a number just in the depth and just not, and one that is no multiple of 2^Wasted, wherever it stands.
func TestPutRange(t *testing.T) {
	for depth := 4; depth <= 33; depth++ {
		least, greatest := -1<<(depth-1), 1<<(depth-1)-1
		for place := range 3 {
			for _, n := range []int{least, greatest} {
				x := filled(3, 0)
				x[place] = n
				model(t, x, api.Subframe{Kind: api.Verbatim}, depth)
				model(t, x, ofFixed(1, 0, wideK(30)), depth)
				model(t, x, ofLinear(0, 2, 1, []int{1}, wideK(30)), depth)
				model(t, filled(3, n), api.Subframe{}, depth)
			}
			for _, n := range []int{least - 1, greatest + 1, 2 * least, 2 * (greatest + 1), math.MinInt, math.MaxInt} {
				x := filled(3, 0)
				x[place] = n
				refuses(t, x, api.Subframe{Kind: api.Verbatim}, depth, api.ErrRange)
				refuses(t, x, ofFixed(1, 0, wideK(30)), depth, api.ErrRange)
				refuses(t, x, ofLinear(0, 2, 1, []int{1}, wideK(30)), depth, api.ErrRange)
				refuses(t, x, api.Subframe{}, depth, api.ErrRange)
				refuses(t, filled(3, n), api.Subframe{}, depth, api.ErrRange)
			}
			for wasted := 1; wasted < depth; wasted++ {
				for _, n := range []int{1, -1, 1<<wasted - 1, 1 << (wasted - 1), -1 << (wasted - 1), least + 1, least + 1<<(wasted-1)} {
					x := filled(3, 0)
					x[place] = n
					refuses(t, x, api.Subframe{Kind: api.Verbatim, Wasted: wasted}, depth, api.ErrRange)
					refuses(t, x, ofFixed(1, wasted, wideK(30)), depth, api.ErrRange)
					refuses(t, x, ofLinear(wasted, 2, 1, []int{1}, wideK(30)), depth, api.ErrRange)
					refuses(t, x, api.Subframe{Wasted: wasted}, depth, api.ErrRange)
					refuses(t, filled(3, n), api.Subframe{Wasted: wasted}, depth, api.ErrRange)
				}
				for _, n := range []int{least, -1 << wasted} {
					x := filled(3, 0)
					x[place] = n
					model(t, x, api.Subframe{Kind: api.Verbatim, Wasted: wasted}, depth)
					model(t, x, ofFixed(1, wasted, wideK(30)), depth)
					model(t, filled(3, n), api.Subframe{Wasted: wasted}, depth)
				}
			}
		}
	}
}

// P16.2, P16.3: Constant with unlike numbers, wherever these stand.
func TestPutForm(t *testing.T) {
	for many := 2; many < 6; many++ {
		for place := range many {
			for _, n := range []int{-1, 0, 1, 3, -4} {
				x := filled(many, 2)
				x[place] = n
				refuses(t, x, api.Subframe{}, 8, api.ErrForm)
			}
			x := filled(many, -64)
			x[place] = -128
			refuses(t, x, api.Subframe{Wasted: 6}, 8, api.ErrForm)
		}
	}
	x := filled(65535, 0)
	x[65534] = 1
	refuses(t, x, api.Subframe{}, 8, api.ErrForm)
	refuses(t, []int{1, 2, 1}, api.Subframe{}, 8, api.ErrForm)
	refuses(t, []int{1, -1, 1}, api.Subframe{}, 8, api.ErrForm)
	refuses(t, []int{1, 2, 1, 2}, api.Subframe{}, 8, api.ErrForm)
}

// P16.2, P16.3: Rest's errors, and an order as great as the block, and greater.
func TestPutRest(t *testing.T) {
	x := []int{0, 4, -4, 0}
	for _, order := range []int{math.MinInt, -1, 5, 6, math.MaxInt} {
		refuses(t, x, ofFixed(order, 0, byK(0)), 8, api.ErrArg)
		refuses(t, x[:2], ofFixed(order, 2, byK(0)), 8, api.ErrArg)
	}
	for many := 1; many <= 4; many++ {
		for order := range 5 {
			s := ofFixed(order, 2, byK(0))
			switch {
			case order > many:
				refuses(t, x[:many], s, 8, api.ErrShort)
			case order == many:
				// Nothing is left: no plan can be of that.
				for _, p := range []api.Plan{byK(0), wideK(0), raw(0), {}, {Order: 1, Parts: make([]api.Part, 2)}} {
					s.Plan = p
					refuses(t, x[:many], s, 8, api.ErrArg)
				}
			default:
				model(t, x[:many], s, 8)
			}
		}
	}
	for many := 1; many <= 34; many++ {
		for order := range 35 {
			x := filled(many, 4)
			s := ofLinear(2, 3, 0, make([]int, order), byK(0))
			switch {
			case order == 0 || order > 32:
				refuses(t, x, s, 8, api.ErrArg)
			case order > many:
				refuses(t, x, s, 8, api.ErrShort)
			case order == many:
				refuses(t, x, s, 8, api.ErrArg)
			default:
				model(t, x, s, 8)
			}
		}
	}
	for _, l := range []api.Lpc{
		{Precision: 0, Factors: []int{0}}, {Precision: 16, Factors: []int{0}}, {Precision: -1, Factors: []int{0}},
		{Precision: 4, Shift: -1, Factors: []int{0}}, {Precision: 4, Shift: 16, Factors: []int{0}},
		{Precision: 4, Factors: []int{8}}, {Precision: 4, Factors: []int{0, -9}}, {Precision: 1, Factors: []int{1}},
	} {
		refuses(t, x, api.Subframe{Kind: api.Linear, Lpc: l, Plan: byK(3)}, 8, api.ErrArg)
	}
	// What is left is too wide: just, and just not.
	refuses(t, []int{-1 << 30, 1 << 30}, ofFixed(1, 0, wideK(30)), 32, api.ErrWidth)
	model(t, []int{-1 << 30, 1<<30 - 1}, ofFixed(1, 0, wideK(30)), 32)
	refuses(t, []int{1 << 30, -1 << 30}, ofFixed(1, 0, wideK(30)), 32, api.ErrWidth)
	model(t, []int{1 << 30, -1<<30 + 1}, ofFixed(1, 0, wideK(30)), 32)
	refuses(t, []int{0, -1 << 31}, ofFixed(0, 0, wideK(30)), 32, api.ErrWidth)
	model(t, []int{0, -1<<31 + 1}, ofFixed(0, 0, wideK(30)), 32)
	refuses(t, []int{0, 1 << 31}, ofLinear(0, 1, 0, []int{0}, wideK(30)), 33, api.ErrWidth)
	model(t, []int{0, 1<<31 - 1}, ofLinear(0, 1, 0, []int{0}, wideK(30)), 33)
	refuses(t, []int{1 << 20, 0}, ofLinear(0, 15, 0, []int{2048}, wideK(30)), 22, api.ErrWidth)
	model(t, []int{1 << 20, 1}, ofLinear(0, 15, 0, []int{2048}, wideK(30)), 22)
	// Divided it is not.
	model(t, []int{-1 << 30, 1 << 30}, ofFixed(1, 1, wideK(30)), 32)
}

// P16.2, P16.3: a plan that can't be of the block, with the order that the kind has.
func TestPutPlan(t *testing.T) {
	x := []int{8, 8, 8, 8, 8, 8, 8, 8}
	one := []int{1}
	for _, p := range []api.Plan{
		{}, {Parts: make([]api.Part, 2)}, {Order: -1}, {Order: 1, Parts: make([]api.Part, 1)}, {Order: 1, Parts: make([]api.Part, 3)},
		{Order: 4, Parts: make([]api.Part, 16)}, {Order: 16}, {Order: math.MaxInt}, byK(-1), byK(15), wideK(31), wideK(-1), raw(32), raw(-1),
		{Order: 1, Parts: []api.Part{{}, {K: 15}}}, {Order: 1, Parts: []api.Part{{K: -1}, {}}},
	} {
		refuses(t, x, ofFixed(0, 0, p), 8, api.ErrArg)
		refuses(t, x, ofFixed(2, 0, p), 8, api.ErrArg)
		refuses(t, x, ofFixed(2, 3, p), 8, api.ErrArg)
		refuses(t, x, ofLinear(0, 2, 0, one, p), 8, api.ErrArg)
	}
	// A Raw that is narrower than what is left: without an order that is all of 8, or of 1, divided.
	refuses(t, x, ofFixed(0, 0, raw(4)), 8, api.ErrArg)
	model(t, x, ofFixed(0, 0, raw(5)), 8)
	refuses(t, x, ofFixed(0, 3, raw(1)), 8, api.ErrArg)
	model(t, x, ofFixed(0, 3, raw(2)), 8)
	model(t, x, ofFixed(1, 0, raw(0)), 8)
	model(t, x, ofLinear(0, 2, 0, one, raw(0)), 8)
	// By how many parts the block can be cut hangs on the order.
	for o := range 5 {
		p := api.Plan{Order: o, Parts: make([]api.Part, 1<<o)}
		for order := range 5 {
			model(t, x, ofFixed(order, 0, p), 8)
		}
		for order := 1; order < 8; order++ {
			model(t, x, ofLinear(0, 2, 0, append(make([]int, order-1), 1), p), 8)
		}
	}
	refuses(t, x, ofFixed(1, 0, api.Plan{Order: 3, Parts: make([]api.Part, 8)}), 8, api.ErrArg)
	refuses(t, x, ofFixed(2, 0, api.Plan{Order: 2, Parts: make([]api.Part, 4)}), 8, api.ErrArg)
	refuses(t, x, ofFixed(4, 0, api.Plan{Order: 1, Parts: make([]api.Part, 2)}), 8, api.ErrArg)
	refuses(t, x, ofLinear(0, 2, 0, []int{1, 0, 0, 0}, api.Plan{Order: 1, Parts: make([]api.Part, 2)}), 8, api.ErrArg)
}

// P16.3: a number that is too long: nothing is laid, though Bits tells how many there were.
func TestPutLong(t *testing.T) {
	for k := range 12 {
		last, next := rice.Unfold(uint64(65536<<k-1)), rice.Unfold(uint64(65536<<k))
		for _, wasted := range []int{0, 1, 4} {
			depth := 28 + wasted
			for _, p := range []api.Plan{byK(k), wideK(k)} {
				refuses(t, []int{0, next << wasted}, ofFixed(0, wasted, p), depth, api.ErrLong)
				refuses(t, []int{next << wasted, 0, 0}, ofFixed(0, wasted, p), depth, api.ErrLong)
				refuses(t, []int{1 << wasted, (next + 1) << wasted}, ofFixed(1, wasted, p), depth, api.ErrLong)
				refuses(t, []int{0, next << wasted}, ofLinear(wasted, 1, 0, []int{0}, p), depth, api.ErrLong)
				put(t, []int{0, next << wasted}, api.Subframe{Kind: api.Verbatim, Wasted: wasted}, depth, modelled([]int{0, next << wasted}, api.Subframe{Kind: api.Verbatim, Wasted: wasted}, depth), api.OK)
				x, s := []int{0, last << wasted}, ofFixed(0, wasted, p)
				put(t, x, s, depth, modelled(x, s, depth), api.OK)
				s = ofLinear(wasted, 1, 0, []int{0}, p)
				put(t, x, s, depth, modelled(x, s, depth), api.OK)
			}
		}
	}
	// Behind a number that is as long as can be all is taken.
	both(t, []int{0, 32767, -32768}, ofFixed(0, 0, byK(0)), 20, "0 001000 0 00 0000 0000 1"+zeros(65534)+"1"+zeros(65535)+"1")
}

// modelled is what the model lays.
func modelled(x []int, s api.Subframe, depth int) string {
	text, _ := modelPut(x, s, depth)
	return text
}

// P16.2, P16.3: two errors at once: the first one is told.
func TestPutBoth(t *testing.T) {
	wideX, wideS := []int{-1 << 31, 1<<31 - 1}, ofFixed(1, 0, wideK(30))
	refuses(t, wideX, wideS, 32, api.ErrWidth)
	longX, longS := []int{0, 1 << 20}, ofFixed(0, 0, byK(0))
	refuses(t, longX, longS, 24, api.ErrLong)
	// ErrArg of the arguments, and each of the others.
	bads := func(s api.Subframe, depth int) []struct {
		s     api.Subframe
		depth int
	} {
		kind, none, low, waste, all := s, s, s, s, s
		kind.Kind, none.Kind, low.Wasted, waste.Wasted, all.Wasted = 4, -1, -1, depth, 99
		return []struct {
			s     api.Subframe
			depth int
		}{{s, 3}, {s, 34}, {kind, depth}, {none, depth}, {low, depth}, {waste, depth}, {all, depth}}
	}
	for _, c := range []struct {
		x     []int
		s     api.Subframe
		depth int
		e     api.Errno
	}{
		{[]int{1, 1 << 40}, api.Subframe{Kind: api.Verbatim}, 8, api.ErrRange},
		{[]int{1, 2}, api.Subframe{}, 8, api.ErrForm},
		{wideX, wideS, 32, api.ErrWidth}, {longX, longS, 24, api.ErrLong},
		{[]int{1}, ofFixed(2, 0, byK(0)), 8, api.ErrShort}, {[]int{1}, ofLinear(0, 4, 0, []int{1, 1}, byK(0)), 8, api.ErrShort},
	} {
		refuses(t, c.x, c.s, c.depth, c.e)
		for _, bad := range bads(c.s, c.depth) {
			refuses(t, c.x, bad.s, bad.depth, api.ErrArg)
		}
		refuses(t, slices.Repeat(c.x, 65536), c.s, c.depth, api.ErrArg)
	}
	// ErrRange, and ErrForm; Rest's errors; a plan that can't be; a number that is too long.
	refuses(t, []int{1, 300}, api.Subframe{}, 8, api.ErrRange)
	refuses(t, []int{300, 1}, api.Subframe{}, 8, api.ErrRange)
	refuses(t, []int{2, 3}, api.Subframe{Wasted: 1}, 8, api.ErrRange)
	refuses(t, []int{3, 2, 1 << 10}, api.Subframe{}, 8, api.ErrRange)
	refuses(t, []int{300}, ofFixed(5, 0, byK(0)), 8, api.ErrRange)
	refuses(t, []int{300}, ofFixed(-1, 0, byK(0)), 8, api.ErrRange)
	refuses(t, []int{300}, ofFixed(2, 0, byK(0)), 8, api.ErrRange)
	refuses(t, []int{1}, ofFixed(2, 1, byK(0)), 8, api.ErrRange)
	refuses(t, []int{300}, ofLinear(0, 0, 0, nil, byK(0)), 8, api.ErrRange)
	refuses(t, []int{300}, ofLinear(0, 4, 0, []int{1, 1}, byK(0)), 8, api.ErrRange)
	refuses(t, wideX, wideS, 31, api.ErrRange)
	refuses(t, wideX, ofFixed(1, 1, wideK(30)), 32, api.ErrRange)
	refuses(t, []int{300, 300}, ofFixed(0, 0, api.Plan{}), 8, api.ErrRange)
	refuses(t, longX, longS, 21, api.ErrRange)
	// Rest's errors, and a plan that can't be; a number that is too long.
	refuses(t, []int{1}, ofFixed(2, 0, api.Plan{}), 8, api.ErrShort)
	refuses(t, []int{1}, ofLinear(0, 4, 0, []int{1, 1}, api.Plan{Order: 99}), 8, api.ErrShort)
	refuses(t, wideX, ofFixed(1, 0, api.Plan{}), 32, api.ErrWidth)
	refuses(t, wideX, ofFixed(1, 0, byK(0)), 32, api.ErrWidth)
	refuses(t, []int{0, 1 << 31}, ofLinear(0, 1, 0, []int{0}, api.Plan{}), 33, api.ErrWidth)
	refuses(t, []int{1}, ofFixed(5, 0, byK(0)), 8, api.ErrArg)
	refuses(t, []int{1}, ofLinear(0, 0, 0, []int{1, 1}, byK(0)), 8, api.ErrArg)
	refuses(t, longX, ofFixed(5, 0, byK(0)), 24, api.ErrArg)
	refuses(t, longX, ofLinear(0, 4, 0, make([]int, 3), byK(0)), 24, api.ErrShort)
	// A plan that can't be, and a number that is too long.
	refuses(t, longX, ofFixed(0, 0, api.Plan{Parts: make([]api.Part, 2)}), 24, api.ErrArg)
	refuses(t, longX, ofFixed(0, 0, api.Plan{Order: 2, Parts: make([]api.Part, 4)}), 24, api.ErrArg)
	refuses(t, longX, ofLinear(0, 1, 0, []int{0}, api.Plan{Order: 1, Parts: make([]api.Part, 2)}), 24, api.ErrArg)
}

// P16.3: subframes behind each other, and behind any bits, wherever these end.
func TestPutBehind(t *testing.T) {
	x := []int{4, 8, 12, 16, 20, 16}
	all := []api.Subframe{ofLinear(2, 3, 0, []int{2, -1}, byK(1)), {Kind: api.Verbatim, Wasted: 1}, ofFixed(4, 0, raw(4)), ofFixed(0, 2, wideK(2))}
	for ahead := range 20 {
		w := bits.New()
		want := digits(0x5a5a5, ahead)
		lay(w, want)
		for _, s := range all {
			if e := Put(w, x, s, 8); e != api.OK {
				t.Fatal(e)
			}
			want += tight(modelled(x, s, 8))
			// An error between them leaves nothing.
			for i, bad := range []api.Subframe{{}, {Kind: 4}, {Kind: api.Verbatim, Wasted: 3}, ofFixed(7, 0, byK(0)), ofFixed(1, 0, byK(15))} {
				if e := Put(w, x, bad, 8); e != []api.Errno{api.ErrForm, api.ErrArg, api.ErrRange, api.ErrArg, api.ErrArg}[i] {
					t.Fatal(i, e)
				}
			}
			if e := Put(w, []int{0, 1 << 20}, ofFixed(0, 0, byK(2)), 24); e != api.ErrLong {
				t.Fatal(e)
			}
			if got := told(w); got != want {
				t.Fatalf("%s, not %s", got, want)
			}
		}
		r := opened(want)
		r.Take(ahead)
		for _, s := range all {
			got, q, e := Take(r, 6, 8)
			if e != api.OK || !slices.Equal(got, x) || !same(q, s) {
				t.Fatal(got, q, e)
			}
		}
		if e := r.End(); e != api.OK {
			t.Fatal(e, r.Left())
		}
	}
}

// P16.4: a depth, or a block, that can't be: no bit is taken, whatever the reader has.
func TestTakeArg(t *testing.T) {
	const constant = "0 000000 1 1" // and 0 in so many bits as are there
	for _, c := range []struct{ block, depth int }{
		{2, 3}, {2, 2}, {2, 1}, {2, 0}, {2, -1}, {2, math.MinInt}, {2, 34}, {2, 35}, {2, 64}, {2, 1<<32 + 8}, {2, math.MaxInt},
		{0, 8}, {-1, 8}, {math.MinInt, 8}, {65536, 8}, {65537, 8}, {1 << 32, 8}, {1<<32 + 1, 8}, {math.MaxInt, 8},
		{0, 3}, {0, 34}, {65536, 3}, {65536, 34}, {-1, -1}, {math.MinInt, math.MaxInt},
	} {
		// Beside bits that tell a subframe, a first bit of 1, a type that is none, too many bits that are wasted, and too few.
		for _, text := range []string{constant + zeros(40), "1", "1 000000 0 00000000", "0 000010 0", "0 000000 1" + zeros(40) + "1", "0 100000 0 00000000 1111", "0", ""} {
			fails(t, text, c.block, c.depth, api.ErrArg, text)
		}
	}
	for _, c := range []struct{ block, depth int }{{1, 4}, {1, 33}, {65535, 4}, {65535, 33}, {2, 5}, {65534, 32}} {
		takes(t, constant+zeros(c.depth-1)+"1", c.block, c.depth, filled(c.block, 0), api.Subframe{Wasted: 1}, api.OK, "1")
	}
}

// P16.4: a reader that has failed before: its own error is told, but behind those of the arguments; it stays where it is.
func TestTakeFailed(t *testing.T) {
	short := func() *bits.Reader {
		r := bits.Open([]byte{0x00, 0xff})
		r.Take(17)
		return r
	}
	form := func() *bits.Reader {
		r := bits.Open([]byte{0x81, 0x00, 0xff})
		r.Take(3)
		r.Fill()
		return r
	}
	for i, open := range []func() *bits.Reader{short, form} {
		want := []api.Errno{api.ErrShort, api.ErrForm}[i]
		for _, c := range []struct {
			block, depth int
			e            api.Errno
		}{{2, 8, want}, {1, 4, want}, {65535, 33, want}, {0, 8, api.ErrArg}, {65536, 8, api.ErrArg}, {2, 3, api.ErrArg}, {2, 34, api.ErrArg}} {
			r := open()
			at := r.At()
			x, s, e := Take(r, c.block, c.depth)
			if e != c.e || len(x) > 0 || !same(s, api.Subframe{}) || r.At() != at || r.Fail() != want {
				t.Errorf("%v, %d, %d: %v, %v, %v; at %d, %v", want, c.block, c.depth, x, s, e, r.At(), r.Fail())
			}
		}
	}
}

// P16.4: a first bit of 1: nothing behind it is taken.
func TestTakeFirst(t *testing.T) {
	for _, behind := range []string{"", "0", "00000", "000000", "000010", "000000 0 11111111", "111111 1 1", "001000 0 00 0000 0000 1", zeros(64), ones(64)} {
		for _, block := range []int{1, 2, 65535} {
			fails(t, "1"+behind, block, 8, api.ErrForm, behind)
		}
	}
}

// still is a subframe of numbers that are all 0, with a predictor that has Precision 1 and a section that is Raw without bits, behind what stands ahead of its numbers.
func still(ahead string, block, depth int) string {
	ahead = tight(ahead)
	m := &modelText{text: ahead}
	s, _ := m.head(depth)
	order := modelOrder(s)
	text := ahead + zeros([]int{1, block, order, order}[s.Kind]*(depth-s.Wasted))
	if s.Kind == api.Linear {
		text += "000000000" + zeros(order)
	}
	if s.Kind == api.Fixed || s.Kind == api.Linear {
		text += "000000111100000"
	}
	return text
}

// stillSubframe is the subframe that such a text tells of a type.
func stillSubframe(n int) api.Subframe {
	switch {
	case n < 2:
		return api.Subframe{Kind: n}
	case n < 32:
		return ofFixed(n-8, 0, raw(0))
	}
	return ofLinear(0, 1, 0, make([]int, n-31), raw(0))
}

// P16.4: each type, with what is behind one that is none.
func TestTakeTypes(t *testing.T) {
	for n := range 64 {
		ahead := "0" + digits(n, 6)
		if n == 0 || n == 1 || n >= 8 && n <= 12 || n >= 32 {
			// Too few bits behind it; an order that is too great; and enough.
			if e := anyText(t, ahead, 40, 8); e != api.ErrShort {
				t.Fatal(n, e)
			}
			text := still(ahead+"0", 40, 8)
			takes(t, text+"01", 40, 8, filled(40, 0), stillSubframe(n), api.OK, "01")
			anyText(t, text, 1, 8)
			continue
		}
		for _, behind := range []string{"", "0", "1", "1" + zeros(10), "0 00000001", "1 1 0000001 0000 1", zeros(64), ones(64)} {
			for _, block := range []int{1, 2, 65535} {
				fails(t, ahead+behind, block, 8, api.ErrKind, behind)
			}
		}
		// The first bit is told ahead of it; five of its bits don't tell it.
		fails(t, "1"+ahead[1:], 2, 8, api.ErrForm, ahead[1:])
		fails(t, ahead[:6], 2, 8, api.ErrShort, ahead[1:6])
	}
}

// P16.4: Wasted of depth less 1, depth, more, and of more bits 0 than there are: it is read bit by bit.
func TestTakeWasted(t *testing.T) {
	for depth := 4; depth <= 33; depth++ {
		for wasted := 1; wasted < depth; wasted++ {
			ahead := "1" + zeros(wasted-1) + "1"
			number := "1" + zeros(depth-wasted-1)
			takes(t, "0 000000"+ahead+number+"01", 3, depth, filled(3, -1<<(depth-1)), api.Subframe{Wasted: wasted}, api.OK, "01")
			takes(t, "0 000001"+ahead+number+"01", 1, depth, filled(1, -1<<(depth-1)), api.Subframe{Kind: api.Verbatim, Wasted: wasted}, api.OK, "01")
			// Without its last bit, or the number.
			for _, kind := range []string{"000000", "000001", "001000", "001100", "100000", "111111"} {
				fails(t, "0"+kind+ahead[:wasted], 33, depth, api.ErrShort, "")
			}
			fails(t, "0 000000"+ahead, 3, depth, api.ErrShort, "")
			fails(t, "0 000000"+ahead+number[1:], 3, depth, api.ErrShort, number[1:])
		}
		// The bit 0 that makes it the depth tells it, whatever is behind it, of each kind.
		ahead := "1" + zeros(depth-1)
		for _, kind := range []string{"000000", "000001", "001000", "001100", "100000", "111111"} {
			for _, behind := range []string{"", "1", "1 0", "1 1111", "0", "01", "0001", zeros(100), ones(100)} {
				for _, block := range []int{1, 33, 65535} {
					fails(t, "0"+kind+ahead+behind, block, depth, api.ErrForm, behind)
				}
			}
		}
	}
	fails(t, "0 000000", 3, 8, api.ErrShort, "")
	fails(t, "0 000000 1", 3, 8, api.ErrShort, "")
}

// P16.4: an order of block less 1, block and more; it is told behind Wasted, and nothing behind that is taken.
func TestTakeOrder(t *testing.T) {
	for order := range 33 {
		kinds := []string{digits(31+order, 6)}
		if order == 0 {
			kinds = []string{"001000"}
		} else if order <= 4 {
			kinds = append(kinds, digits(8+order, 6))
		}
		for _, kind := range kinds {
			for _, ahead := range []string{"0" + kind + "0", "0" + kind + "1 1", "0" + kind + "1 0001"} {
				for block := 1; block <= order; block++ {
					for _, behind := range []string{"", "0", zeros(7), zeros(300), ones(300)} {
						fails(t, ahead+behind, block, 8, api.ErrForm, behind)
					}
				}
				if e := anyText(t, still(ahead, order+1, 8), order+1, 8); e != api.OK {
					t.Fatal(kind, order, e)
				}
			}
			if order > 0 {
				// Where Wasted is cut off, or is too great, its order isn't told yet.
				fails(t, "0"+kind, order, 8, api.ErrShort, "")
				fails(t, "0"+kind+"1 000", order, 8, api.ErrShort, "")
				fails(t, "0"+kind+"1"+zeros(8), order, 8, api.ErrForm, "0")
			}
		}
	}
}

// P16.4: a Precision less 1 of 14 and of 15, a Shift of 15, 16 and 31: nothing behind those that can't be is taken.
func TestTakePredictor(t *testing.T) {
	for _, c := range []struct {
		ahead string
		block int
		x     []int
		s     api.Subframe
	}{
		{"0 100000 0 00000101", 2, []int{5, 0}, ofLinear(0, 0, 0, []int{0}, byK(0))},
		{"0 100001 1 01 000101 111111", 3, []int{20, -4, 0}, ofLinear(2, 0, 0, []int{0, 0}, byK(0))},
		{"0 111111 0" + strings.Repeat("11111111", 32), 33, append(filled(32, -1), 0), ofLinear(0, 0, 0, make([]int, 32), byK(0))},
	} {
		for _, behind := range []string{"", "0", "1", "00000", "10000", "11111", zeros(600), ones(600)} {
			fails(t, c.ahead+"1111"+behind, c.block, 8, api.ErrForm, behind)
			for shift := 16; shift < 32; shift++ {
				for _, precision := range []int{0, 1, 7, 14} {
					fails(t, c.ahead+digits(precision, 4)+digits(shift, 5)+behind, c.block, 8, api.ErrForm, behind)
				}
			}
		}
		for shift := range 16 {
			for precision := range 15 {
				c.s.Lpc.Precision, c.s.Lpc.Shift = precision+1, shift
				factors := zeros((precision + 1) * len(c.s.Lpc.Factors))
				takes(t, c.ahead+digits(precision, 4)+digits(shift, 5)+factors+"00 0000 0000 1 01", c.block, 8, c.x, c.s, api.OK, "01")
			}
		}
		// Of too few bits none is told.
		fails(t, c.ahead+"111", c.block, 8, api.ErrShort, "111")
		fails(t, c.ahead+"1110 1111", c.block, 8, api.ErrShort, "1111")
		fails(t, c.ahead+"1110 01111", c.block, 8, api.ErrShort, "")
		fails(t, c.ahead+"1110 01111"+ones(14), c.block, 8, api.ErrShort, ones(14))
	}
}

// P16.4: a predictor's factors have a sign, the least and the greatest of each precision.
func TestTakeFactors(t *testing.T) {
	for precision := 1; precision <= 15; precision++ {
		least, greatest := -1<<(precision-1), 1<<(precision-1)-1
		text := "0 100010 0 0000 0000 0000" + digits(precision-1, 4) + "00000 1" + zeros(precision-1) + "0" + ones(precision-1) + ones(precision) + "00 0000 1111 00000"
		takes(t, text+"1", 8, 4, filled(8, 0), ofLinear(0, precision, 0, []int{least, greatest, -1}, raw(0)), api.OK, "1")
	}
}

// P16.4: chapter 15's errors: too few bits, first ones that tell nothing, a block that can't be cut, a number that is too wide; the block and the order are those of the subframe.
func TestTakeSection(t *testing.T) {
	tooWide := "11110 00001" + zeros(30)
	for _, c := range []struct {
		ahead        string
		block, order int
	}{
		{"0 001000 0", 2, 0}, {"0 001000 1 01", 4, 0}, {"0 001001 0 00000000", 2, 1}, {"0 001100 1 1 0000000 0000000 0000000 0000000", 6, 4},
		{"0 100000 0 00000000 0000 00000 0", 2, 1}, {"0 100001 1 001 00000 11111 1110 01111" + zeros(30), 8, 2},
	} {
		for _, behind := range []string{"", "0", "1111", "0000 0000 1", zeros(70), ones(70)} {
			fails(t, c.ahead+"10"+behind, c.block, 8, api.ErrKind, behind)
			fails(t, c.ahead+"11"+behind, c.block, 8, api.ErrKind, behind)
			for o := range 16 {
				if len(parts.Cuts(c.block-c.order, c.order, o)) == 0 {
					fails(t, c.ahead+"00"+digits(o, 4)+behind, c.block, 8, api.ErrForm, behind)
					fails(t, c.ahead+"01"+digits(o, 4)+behind, c.block, 8, api.ErrForm, behind)
				}
			}
			fails(t, c.ahead+"01 0000"+tooWide+behind, c.block, 8, api.ErrWidth, behind)
			fails(t, c.ahead+"00 0000 1110"+zeros(1<<18)+"1"+zeros(14)+behind, c.block, 8, api.ErrWidth, behind)
		}
		fails(t, c.ahead, c.block, 8, api.ErrShort, "")
		fails(t, c.ahead+"1", c.block, 8, api.ErrShort, "1")
		fails(t, c.ahead+"00 111", c.block, 8, api.ErrShort, "111")
		fails(t, c.ahead+"00 0000 111", c.block, 8, api.ErrShort, "111")
		fails(t, c.ahead+"00 0000 1111 0000", c.block, 8, api.ErrShort, "0000")
		fails(t, c.ahead+"00 0000 0000"+strings.Repeat("1", c.block-c.order-1)+"00", c.block, 8, api.ErrShort, "")
		fails(t, c.ahead+"00 0000 1111 00010"+strings.Repeat("00", c.block-c.order-1)+"1", c.block, 8, api.ErrShort, "1")
	}
}

// P16.4: a number that is restored just in the depth e, and just not, wherever it stands; it is told behind all of what is left alone.
func TestTakeRange(t *testing.T) {
	for depth := 4; depth <= 33; depth++ {
		for _, wasted := range []int{0, 1, depth - 2, depth - 1} {
			e := depth - wasted
			least, greatest := -1<<(e-1), 1<<(e-1)-1
			ahead := "0"
			if wasted > 0 {
				ahead = "1" + zeros(wasted-1) + "1"
			}
			// By a Raw of so many bits that all are in it.
			width := min(e+1, 31)
			number := func(n int) string { return digits(n, width) }
			section := "00 0000 1111" + digits(width, 5)
			for place := range 3 {
				l := []string{number(0), number(0), number(0)}
				x := []int{0, 0, 0}
				for _, n := range []int{least, greatest, least - 1, greatest + 1} {
					if n < -1<<(width-1) || n > 1<<(width-1)-1 {
						continue
					}
					l[place], x[place] = number(n), n<<wasted
					text := section + strings.Join(l, "") + "01"
					if n == least || n == greatest {
						takes(t, "0 001000"+ahead+text, 3, depth, x, ofFixed(0, wasted, raw(width)), api.OK, "01")
						takes(t, "0 100000"+ahead+zeros(e)+"0000 00000 0"+text, 4, depth, append([]int{0}, x...), ofLinear(wasted, 1, 0, []int{0}, raw(width)), api.OK, "01")
						continue
					}
					fails(t, "0 001000"+ahead+text, 3, depth, api.ErrRange, "01")
					fails(t, "0 100000"+ahead+zeros(e)+"0000 00000 0"+text, 4, depth, api.ErrRange, "01")
				}
			}
			// It goes up by 1, and down by 1, from a number that has e bits.
			up, down := digits(greatest-1, e), digits(least+1, e)
			if e < 2 {
				continue
			}
			one := "00 0000 0000 001"
			two := "0000 0000 01"
			x := []int{(greatest - 1) << wasted, greatest << wasted}
			takes(t, "0 001001"+ahead+up+one+"1", 2, depth, x, ofFixed(1, wasted, byK(0)), api.OK, "1")
			fails(t, "0 001001"+ahead+up+one+"001 1", 3, depth, api.ErrRange, "1")
			fails(t, "0 001001"+ahead+up+one+"001 01 01 1", 5, depth, api.ErrRange, "1")
			fails(t, "0 001001"+ahead+up+one+"001 01 01 0", 6, depth, api.ErrShort, "")
			fails(t, "0 100000"+ahead+up+"0001 00000 01"+one+"001 01 1", 4, depth, api.ErrRange, "1")
			x = []int{(least + 1) << wasted, least << wasted}
			takes(t, "0 001001"+ahead+down+"00"+two+"1", 2, depth, x, ofFixed(1, wasted, byK(0)), api.OK, "1")
			fails(t, "0 001001"+ahead+down+"00"+two+"01 1", 3, depth, api.ErrRange, "1")
			fails(t, "0 001001"+ahead+down+"00"+two+"01 001 001 1", 5, depth, api.ErrRange, "1")
			fails(t, "0 100000"+ahead+down+"0001 00000 01 00"+two+"01 001 1", 4, depth, api.ErrRange, "1")
		}
	}
}

// P16.4: numbers that go far out, beyond what an int has, where some may come to be in the depth again: the first one that isn't tells it.
func TestTakeFar(t *testing.T) {
	for i := range 60 {
		// By k 30 they are told with 31 bits and a sign; each has one of its own.
		var l strings.Builder
		for j := range 300 {
			l.WriteString("0001" + digits(int(scramble(uint64(i*1000+j))>>1), 29) + digits(i*j>>1, 1))
		}
		text := "01 0000 11110" + l.String()
		for order := range 5 {
			ahead := "0" + digits(8+order, 6) + "0" + digits(-i, 33*order)
			if e := anyText(t, ahead+text+"01", 300, 33); e != api.ErrRange && order > 1 {
				t.Fatal(i, order, e)
			}
		}
		for _, order := range []int{1, 2, 7, 32} {
			for _, factor := range []string{"011111111111111", "100000000000000", "010101010101010"} {
				ahead := "0" + digits(31+order, 6) + "0" + ones(33*order) + "1110 00000" + strings.Repeat(factor, order)
				if e := anyText(t, ahead+text+"01", 300, 33); e != api.ErrRange {
					t.Fatal(i, order, e)
				}
			}
		}
	}
}

// P16.4: two errors at once: the first one is told.
func TestTakeBoth(t *testing.T) {
	tooWide := "11110 00001" + zeros(30)
	// A first bit of 1, and: a type that is none, Wasted, an order, a predictor, a section, too few bits.
	for _, behind := range []string{"", "000010", "000000 1" + zeros(20), "001100 0", "100000 0 00000000 1111", "001000 0 11", "001000 0 01 0000" + tooWide} {
		fails(t, "1"+behind, 1, 8, api.ErrForm, behind)
	}
	// A type that is none, and: Wasted, too few bits.
	for _, behind := range []string{"", "1", "1" + zeros(20), "1" + zeros(20) + "1"} {
		fails(t, "0 000010"+behind, 1, 8, api.ErrKind, behind)
		fails(t, "0 011111"+behind, 1, 8, api.ErrKind, behind)
	}
	// Wasted, and: an order, a predictor, a section, too few bits.
	for _, behind := range []string{"", "1", "1 1111", "1 11"} {
		fails(t, "0 001100 1"+zeros(7)+behind, 1, 8, api.ErrForm, behind)
		fails(t, "0 001100 1"+zeros(7)+behind, 9, 8, api.ErrForm, behind)
		fails(t, "0 100000 1"+zeros(7)+behind, 9, 8, api.ErrForm, behind)
	}
	// An order, and: a predictor, a section, a number, too few bits.
	for _, behind := range []string{"", "0", "00000000 1111", "00000000 0000 11111", "00000000 11", "00000000 01 0000" + tooWide} {
		fails(t, "0 001001 0"+behind, 1, 8, api.ErrForm, behind)
		fails(t, "0 100000 0"+behind, 1, 8, api.ErrForm, behind)
	}
	// A precision, and: a shift, a section, too few bits.
	for _, behind := range []string{"", "1111", "11111", "00000 0000000000000000 11"} {
		fails(t, "0 100000 0 00000000 1111"+behind, 2, 8, api.ErrForm, behind)
	}
	// A shift, and: too few bits, a section.
	for _, behind := range []string{"", "000", "0000 11", "0000 00 1111"} {
		fails(t, "0 100000 0 00000000 0011 10000"+behind, 2, 8, api.ErrForm, behind)
	}
	// The kind of a section, and: a block that can't be cut, too few bits.
	fails(t, "0 001000 0 10", 1, 8, api.ErrKind, "")
	fails(t, "0 001000 0 11 0001", 1, 8, api.ErrKind, "0001")
	fails(t, "0 100000 0 00000000 0000 00000 0 10 0001", 2, 8, api.ErrKind, "0001")
	// A number that isn't in the depth, and: one behind it that is too wide, too few bits behind it.
	deep := "0 001000 0 01 0000 00110 01 000000" // 32 by k 6, in the depth 5
	takes(t, deep+"1", 1, 8, []int{32}, ofFixed(0, 0, wideK(6)), api.OK, "1")
	fails(t, deep+"1", 1, 5, api.ErrRange, "1")
	fails(t, deep, 2, 5, api.ErrShort, "")
	fails(t, deep+"000", 2, 5, api.ErrShort, "")
	fails(t, deep+"01 00000", 2, 5, api.ErrShort, "00000")
	fails(t, "0 001000 0 01 0001 00110 01 000000"+tooWide+"1", 2, 5, api.ErrWidth, "1")
	fails(t, "0 001000 0 01 0001 00110 01 000000"+tooWide[:20], 2, 5, api.ErrShort, zeros(9))
	// Two numbers that aren't, far apart.
	fails(t, deep+"01 000000 1 000000 01 111111 0", 4, 5, api.ErrRange, "0")
	// A number that is too wide isn't in the depth, either.
	fails(t, "0 001000 0 01 0000"+tooWide+"1", 1, 33, api.ErrWidth, "1")
	fails(t, "0 001000 0 01 0000"+tooWide+"1", 1, 4, api.ErrWidth, "1")
}

// starts are where each thing of a subframe begins that is taken at once, and its end, for a text with a blank between any two.
func starts(spaced string) []int {
	at, all := 0, []int{0}
	for _, word := range strings.Fields(spaced) {
		at += len(word)
		all = append(all, at)
	}
	return all
}

// P16.4: a reader that ends at each place of a subframe: it stays where the thing that is cut off begins.
func TestTakeShort(t *testing.T) {
	for _, c := range []struct {
		spaced       string
		block, depth int
	}{
		{"0 000000 0 11111111", 2, 8},
		{"0 000000 1 0 0 1 11111", 65535, 8},
		{"0 000000 1 1 11111111111111111111111111111111", 3, 33},
		{"0 000001 0 00000100 00001000 00001100", 3, 8},
		{"0 000001 1 0 1 000001 000010 000011 000100", 4, 8},
		{"0 001000 0 00 0000 0001 0 1 0 1 0", 2, 8},
		{"0 001010 1 0 1 000001 000010 00 0000 0001 1 0 1 0 1 0 0 1 1", 6, 8},
		{"0 001100 0 00000001 00000010 00000011 00000100 01 0000 11111 00010 00 10", 6, 8},
		{"0 001001 1 1 0000000 00 0001 0000 1 0000 0 0 1 1", 4, 8},
		{"0 100000 0 00000100 0011 00001 0100 00 0000 0000 1 1 1", 4, 8},
		{"0 100001 1 0 1 000001 000010 0010 00000 010 111 00 0000 0001 1 0 1 0 1 0 0 1 1", 6, 8},
		{"0 111111 0" + strings.Repeat(" 0001", 32) + " 1110 01111" + strings.Repeat(" 000000000000001", 32) + " 00 0000 0000 1 0 0 1", 34, 4},
	} {
		text, places := tight(c.spaced), starts(c.spaced)
		for many := range len(text) {
			i, found := slices.BinarySearch(places, many)
			if !found {
				i--
			}
			fails(t, text[:many], c.block, c.depth, api.ErrShort, text[places[i]:many])
		}
		if e := anyText(t, text, c.block, c.depth); e != api.OK {
			t.Fatal(c, e)
		}
	}
}

// best is a subframe's best plan, if there is one.
func best(x []int, s api.Subframe, most int, wide bool) api.Plan {
	left, _ := modelRest(x, s)
	p, _, _ := parts.Best(left, modelOrder(s), most, wide)
	return p
}

// P16.2 to P16.5: many blocks, by all kinds, depths and Wasted, by plans that are best and ones that aren't, against the models.
func TestModel(t *testing.T) {
	for i := range uint64(300) {
		depth := 4 + int(i%30)
		wasted := int(scramble(i) % uint64(depth))
		if i%3 == 0 {
			wasted = 0
		}
		many := 1 + int(scramble(i+1<<30)%50)
		x := smooth(many, depth, wasted, i)
		if i%5 == 0 {
			x = unruly(many, depth-wasted, i)
			for j := range x {
				x[j] <<= wasted
			}
		}
		model(t, x, api.Subframe{Wasted: wasted}, depth)
		model(t, filled(many, x[0]), api.Subframe{Wasted: wasted}, depth)
		model(t, x, api.Subframe{Kind: api.Verbatim, Wasted: wasted}, depth)
		model(t, x, api.Subframe{Kind: api.Verbatim, Wasted: max(0, wasted-1)}, depth)
		for order := range 6 {
			s := ofFixed(order, wasted, wideK(min(depth, 30)))
			model(t, x, s, depth)
			s.Plan = best(x, s, int(i%4), i%2 == 0)
			model(t, x, s, depth)
		}
		for _, order := range []int{1, 2, 3, 8, 31, 32} {
			precision := 1 + int(i%15)
			factors := unruly(order, precision, i+1<<10)
			// Those of Fixed do well.
			if order == 2 && precision >= 3 {
				factors = []int{2, -1}
			}
			s := ofLinear(wasted, precision, int(i%16), factors, wideK(min(depth, 30)))
			model(t, x, s, depth)
			s.Plan = best(x, s, int(i%4), i%2 == 0)
			model(t, x, s, depth)
		}
	}
}

// P16.5: the longest blocks there and back, in as many bits as Bits tells.
func TestLongest(t *testing.T) {
	for _, c := range []struct {
		block, depth int
		s            api.Subframe
	}{
		{65535, 33, api.Subframe{Kind: api.Verbatim}}, {65535, 16, api.Subframe{Kind: api.Verbatim, Wasted: 3}},
		{65535, 16, ofFixed(0, 0, api.Plan{})}, {65535, 24, ofFixed(4, 2, api.Plan{})}, {65280, 32, ofFixed(2, 0, api.Plan{})},
		{65535, 16, ofLinear(0, 3, 0, []int{2, -1}, api.Plan{})}, {65535, 16, ofLinear(1, 6, 5, append(filled(31, 1), 0), api.Plan{})},
	} {
		x := smooth(c.block, c.depth, c.s.Wasted, uint64(c.block+c.depth))
		if c.s.Kind >= api.Fixed {
			c.s.Plan = best(x, c.s, 8, true)
		}
		w := bits.New()
		many, e := Bits(x, c.s, c.depth)
		if f := Put(w, x, c.s, c.depth); e != api.OK || f != api.OK || w.Len() != many {
			t.Fatal(c.block, c.depth, e, f, w.Len(), many)
		}
		r := bits.Open(w.Bytes())
		got, s, e := Take(r, c.block, c.depth)
		if e != api.OK || !slices.Equal(got, x) || !same(s, meant(c.s)) || r.At() != many {
			t.Fatal(c.block, c.depth, e, r.At(), many)
		}
	}
}

// someSubframe is a block and a subframe of it, by any number.
func someSubframe(i uint64) ([]int, api.Subframe, int) {
	depth := 4 + int(scramble(i+1<<33)%8)
	wasted := max(0, int(scramble(i+1<<34)%8)-4)
	x := smooth(1+int(scramble(i+1<<35)%12), depth, min(wasted, depth-1), i)
	s := api.Subframe{Kind: int(i % 4), Wasted: min(wasted, depth-1)}
	switch s.Kind {
	case api.Constant:
		x = filled(len(x), x[0])
	case api.Fixed:
		s.Order = int(scramble(i+1<<36)) & 15 % 5 % len(x)
		s.Plan = best(x, s, int(i/4%3), i/16%2 == 0)
	case api.Linear:
		if len(x) < 2 {
			x = append(x, x[0])
		}
		order := 1 + int(scramble(i+1<<37)&15)%(len(x)-1)
		s.Lpc = api.Lpc{Precision: 3, Shift: int(i / 4 % 3), Factors: unruly(order, 3, i)}
		s.Plan = best(x, s, int(i/4%3), i/16%2 == 0)
	}
	return x, s, depth
}

// P16.4: subframes of which a bit is turned over, or that are cut off: what the model tells, and where it ends.
func TestTurned(t *testing.T) {
	errors := map[api.Errno]int{}
	for i := range uint64(1500) {
		x, s, depth := someSubframe(i)
		text, e := modelPut(x, s, depth)
		if e != api.OK {
			t.Fatal(x, s, e)
		}
		text = tight(text) + "10110"
		for j := range len(text) {
			turned := text[:j] + string('0'+'1'-text[j]) + text[j+1:]
			errors[anyText(t, turned, len(x), depth)]++
		}
		for _, many := range []int{0, 1, 7, 8, len(text) / 2, len(text) - 6} {
			errors[anyText(t, text[:min(many, len(text))], len(x), depth)]++
		}
	}
	for _, e := range []api.Errno{api.OK, api.ErrShort, api.ErrForm, api.ErrKind, api.ErrRange} {
		if errors[e] < 500 {
			t.Errorf("%v was told %d times", e, errors[e])
		}
	}
}

// P16.4: any bits at all: what the model tells, and where it ends; what is taken is laid again as it was.
func TestAnyBits(t *testing.T) {
	errors := map[api.Errno]int{}
	kinds := []string{"000000", "000001", "001000", "001001", "001100", "100000", "100001", "000110", "011000"}
	for i := range uint64(30000) {
		text := "0" + kinds[scramble(i)%9] + "0"
		if scramble(i+1<<39)%3 == 0 {
			text = text[:7] + "1"
		}
		if scramble(i+1<<40)%20 == 0 {
			text = ""
		}
		rare := scramble(i+1<<41) % 4
		for j := range scramble(i+1<<42) % 150 {
			bit := 0
			if scramble(i<<10+j+1<<50)%(rare+1) == 0 {
				bit = 1
			}
			text += digits(bit, 1)
		}
		block, depth := int(scramble(i+1<<43)%8), 3+int(scramble(i+1<<44)%14)
		e := anyText(t, text, block, depth)
		errors[e]++
		if e == api.OK {
			x, s, _, at := modelTake(text, block, depth)
			put(t, x, s, depth, text[:at], api.OK)
		}
	}
	for _, e := range []api.Errno{api.OK, api.ErrArg, api.ErrShort, api.ErrForm, api.ErrKind, api.ErrRange} {
		if errors[e] < 100 {
			t.Errorf("%v was told %d times", e, errors[e])
		}
	}
}

// R5, R6: what is handed in is not changed, nor what stands behind it in its memory; asked again, the answers are the same, whatever was done to the ones before.
func TestHandedIn(t *testing.T) {
	long := []int{4, 8, 12, 16, 20, 16, 77, 78}
	ways, factors := []api.Part{{K: 1}, {K: 3, Raw: true}, {K: 99}}, []int{2, -1, 55, 66}
	keptLong, keptWays, keptFactors := slices.Clone(long), slices.Clone(ways), slices.Clone(factors)
	x, two := long[:6], api.Plan{Order: 1, Parts: ways[:2]}
	text := tight("0 100001 1 01 000001 000010 0010 00000 010 111 00 0001 0001 1 0 1111 00011 000 000 110")
	s := ofLinear(2, 3, 0, factors[:2], two)
	for range 3 {
		for _, c := range []api.Subframe{s, ofFixed(2, 2, two), ofFixed(2, 0, two), ofFixed(0, 0, api.Plan{Parts: ways[:1]}), {Kind: api.Verbatim}, {}, {Kind: 4}, ofLinear(3, 3, 0, factors[:2], two), ofLinear(2, 3, 0, factors, two)} {
			Rest(x, c)
			Bits(x, c, 8)
			Put(bits.New(), x, c, 8)
			if !slices.Equal(long, keptLong) || !slices.Equal(ways, keptWays) || !slices.Equal(factors, keptFactors) {
				t.Fatal(c, long, ways, factors)
			}
		}
		w := bits.New()
		if e := Put(w, x, s, 8); e != api.OK {
			t.Fatal(e)
		}
		// What is done to the lists behind the call is nothing to the writer.
		long[0], ways[0], factors[0] = 5, api.Part{K: 5}, 5
		if got := told(w); got != text {
			t.Fatal(got)
		}
		long[0], ways[0], factors[0] = keptLong[0], keptWays[0], keptFactors[0]
		got, q, e := Take(opened(text), 6, 8)
		again, other, f := Take(opened(text), 6, 8)
		if e != api.OK || !slices.Equal(got, x) || !same(q, s) {
			t.Fatal(got, q, e)
		}
		clear(got)
		clear(q.Plan.Parts)
		clear(q.Lpc.Factors)
		if f != api.OK || !slices.Equal(again, x) || !same(other, s) {
			t.Fatal(again, other, f)
		}
	}
	// Of each other kind, too.
	for _, text := range []string{"0 000000 0 00000011", "0 000001 0 00000011 00000100 00000101", "0 001000 0 00 0000 0000 01 1 001"} {
		got, q, _ := Take(opened(tight(text)), 3, 8)
		kept := slices.Clone(got)
		again, other, _ := Take(opened(tight(text)), 3, 8)
		clear(got)
		if len(kept) != 3 || !slices.Equal(again, kept) || !same(q, other) {
			t.Fatal(kept, again, q, other)
		}
	}
}

// P16.1, P16.2, P16.3, P16.5: any numbers, and any subframes.
func FuzzPut(f *testing.F) {
	f.Add([]byte{255, 255, 255, 255, 3, 0, 255, 255, 255, 255, 3, 0}, 0, 0, 8, 0, []byte{}, []byte{0})
	f.Add([]byte{0, 0, 0, 0, 2, 0, 255, 255, 255, 255, 255, 30, 0, 0, 0, 0, 0, 33}, 2, 0, 8, 1, []byte{}, []byte{1})
	f.Add([]byte{0, 0, 0, 0, 2, 0, 255, 255, 255, 255, 255, 30, 0, 0, 0, 0, 0, 33}, 3, 0, 12, 0x20, []byte{2, 255}, []byte{64 + 20})
	f.Fuzz(func(t *testing.T, b []byte, kind, wasted, depth, more int, factors, ways []byte) {
		var x []int
		for ; len(b) >= 6 && len(x) < 60; b = b[6:] {
			// Of the last byte but one the lowest two bits tell the highest ones of a number of 34 bits; the last one tells how near to 0 that is.
			n := int(binary.LittleEndian.Uint32(b)) | int(b[4]&3)<<32
			n = (n - 1<<33) >> (b[5] % 40)
			x = append(x, n<<max(0, min(wasted, 33)))
		}
		s := api.Subframe{Kind: kind, Wasted: wasted, Order: more & 15}
		s.Lpc = api.Lpc{Precision: more >> 4 & 31, Shift: more >> 9 & 31}
		for _, n := range factors[:min(len(factors), 40)] {
			s.Lpc.Factors = append(s.Lpc.Factors, int(int8(n)))
		}
		s.Plan = api.Plan{Wide: more>>14&1 == 1, Order: more >> 15 & 3}
		for _, way := range ways[:min(len(ways), 10)] {
			s.Plan.Parts = append(s.Plan.Parts, api.Part{K: int(way & 63), Raw: way&64 != 0})
		}
		left, e := modelRest(x, s)
		rests(t, x, s, left, e)
		text, e := modelPut(x, s, depth)
		put(t, x, s, depth, text, e)
		if e == api.OK {
			takes(t, text, len(x), depth, x, meant(s), api.OK, "")
		}
	})
}

// P16.4: any bytes at all.
func FuzzTake(f *testing.F) {
	f.Add([]byte{0x00, 0xff}, 2, 8)
	f.Add([]byte{0x03, 0x41, 0x00}, 4, 8)
	f.Add([]byte{0x14, 0x04, 0x08, 0x00, 0x78}, 4, 8)
	f.Add([]byte{0x40, 0x04, 0x30, 0x8f, 0xff, 0xff}, 4, 8)
	f.Fuzz(func(t *testing.T, b []byte, block, depth int) {
		w := bits.New()
		for _, n := range b {
			w.Put(uint64(n), 8)
		}
		anyText(t, told(w), block, depth)
	})
}
