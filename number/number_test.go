package number

import (
	"bytes"
	"math"
	"slices"
	"strconv"
	"strings"
	"testing"
	"unicode/utf8"

	"serinette/api"
)

// last are the last numbers of each size, as the chapter's bits tell them.
var last = []int{127, 2047, 65535, 2097151, 67108863, 2147483647, 68719476735}

// scramble makes numbers that look unruly, always the same ones.
func scramble(n uint64) uint64 {
	n = (n + 1) * 0x9e3779b97f4a7c15
	n = (n ^ n>>31) * 0xbf58476d1ce4e5b9
	return n ^ n>>29
}

// some are rising numbers that can be: all that have a few bits, those around every power of 2 and every size's end, runes' edges, and unruly ones of all sizes.
func some() []int {
	var all []int
	for n := range 5000 {
		all = append(all, n)
	}
	edges := []int{0xd7ff, 0xd800, 0xdbff, 0xdc00, 0xdfff, 0xe000, 0xfdd0, 0xfffd, 0xfffe, 0x10000, 0x10ffff, 0x110000, 8364}
	for i := range 37 {
		edges = append(edges, 1<<i)
		// What keeps 32 bits of them alone sees runes.
		edges = append(edges, 1<<i+'a', 1<<i+8364, 1<<i-8364)
		for j := range uint64(40) {
			edges = append(edges, int(scramble(100*uint64(i)+j)>>(28+i%36)))
		}
	}
	for _, n := range append(edges, last...) {
		for d := -2; d <= 2; d++ {
			if n+d >= 0 && n+d <= 68719476735 {
				all = append(all, n+d)
			}
		}
	}
	slices.Sort(all)
	return slices.Compact(all)
}

// sized is a number's size by the promise's own words.
func sized(n int) int {
	need := len(strconv.FormatInt(int64(n), 2))
	for i, has := range []int{7, 11, 16, 21, 26, 31, 36} {
		if has >= need {
			return i + 1
		}
	}
	return 0
}

// written is a number in so many bytes, whether it needs them or not, bit by bit as the promise tells them.
func written(n, size int) []byte {
	if size == 1 {
		return []byte{byte(n)}
	}
	form := strings.Repeat("1", size) + "0" + strings.Repeat("n", 8)[:7-size]
	form += strings.Repeat("10nnnnnn", size-1)
	left := strings.Count(form, "n")
	b := make([]byte, size)
	for i, c := range form {
		bit := byte(c - '0')
		if c == 'n' {
			left--
			bit = byte(n >> left & 1)
		}
		b[i/8] |= bit << (7 - i%8)
	}
	return b
}

// P3.1: the chapter's examples, and others by hand.
func TestEncodeExamples(t *testing.T) {
	for _, x := range []struct {
		n    int
		want string
	}{
		{0, "\x00"}, {1, "\x01"}, {'z', "z"}, {127, "\x7f"},
		{128, "\xc2\x80"}, {2047, "\xdf\xbf"},
		{2048, "\xe0\xa0\x80"}, {8364, "\xe2\x82\xac"}, {0xd800, "\xed\xa0\x80"}, {0xdfff, "\xed\xbf\xbf"}, {65535, "\xef\xbf\xbf"},
		{65536, "\xf0\x90\x80\x80"}, {0x10ffff, "\xf4\x8f\xbf\xbf"}, {0x110000, "\xf4\x90\x80\x80"}, {2097151, "\xf7\xbf\xbf\xbf"},
		{2097152, "\xf8\x88\x80\x80\x80"}, {67108863, "\xfb\xbf\xbf\xbf\xbf"},
		{67108864, "\xfc\x84\x80\x80\x80\x80"}, {2147483647, "\xfd\xbf\xbf\xbf\xbf\xbf"},
		{2147483648, "\xfe\x82\x80\x80\x80\x80\x80"}, {1<<32 + 8364, "\xfe\x84\x80\x80\x82\x82\xac"}, {68719476735, "\xfe\xbf\xbf\xbf\xbf\xbf\xbf"},
	} {
		b, e := Encode(x.n)
		if string(b) != x.want || e != api.OK || Size(x.n) != len(x.want) {
			t.Errorf("%d: %x with %d, size %d, want %x", x.n, b, e, Size(x.n), x.want)
		}
	}
}

// P3.1: the last number of each size and the next one; the last one of all is MaxTotal.
func TestSizeEdges(t *testing.T) {
	for i, n := range last {
		if Size(n) != i+1 {
			t.Errorf("Size(%d) is %d", n, Size(n))
		}
		if want := (i + 2) % 8; Size(n+1) != want {
			t.Errorf("Size(%d) is %d, want %d", n+1, Size(n+1), want)
		}
	}
	if last[6] != api.MaxTotal || Size(0) != 1 {
		t.Error(Size(0), Size(api.MaxTotal))
	}
}

// P3.1: numbers of all sizes, by a model that goes bit by bit.
func TestEncode(t *testing.T) {
	for _, n := range some() {
		want := sized(n)
		if Size(n) != want {
			t.Fatalf("Size(%d) is %d, want %d", n, Size(n), want)
		}
		b, e := Encode(n)
		if e != api.OK || !bytes.Equal(b, written(n, want)) {
			t.Fatalf("Encode(%d) is %x with %d, want %x", n, b, e, written(n, want))
		}
	}
}

// P3.1: numbers that can't be, with those whose lower bits would look like ones that can.
func TestEncodeWrong(t *testing.T) {
	for _, n := range []int{-1, -2, -128, -8364, math.MinInt, math.MinInt + 'a', math.MinInt32, 1 << 36, 1<<36 + 1, 1<<36 + 'a', 1 << 37, 1<<40 + 8364, 1<<62 + 1, math.MaxInt} {
		if b, e := Encode(n); len(b) != 0 || e != api.ErrRange {
			t.Errorf("Encode(%d) is %x with %d", n, b, e)
		}
		if Size(n) != 0 {
			t.Errorf("Size(%d) is %d", n, Size(n))
		}
	}
}

// wantDecode asks for an answer of Decode, and that it leaves the bytes as they are.
func wantDecode(t *testing.T, b []byte, n, size int, fail api.Errno) {
	t.Helper()
	kept := bytes.Clone(b)
	gotN, gotSize, e := Decode(b)
	if gotN != n || gotSize != size || e != fail {
		t.Fatalf("Decode(%x) is %d, %d, %d, want %d, %d, %d", b, gotN, gotSize, e, n, size, fail)
	}
	if !bytes.Equal(b, kept) {
		t.Fatalf("Decode changed %x to %x", kept, b)
	}
}

// P3.2, P3.3: what was written is read, whatever stands behind it.
func TestDecodeWritten(t *testing.T) {
	for _, n := range some() {
		b := written(n, sized(n))
		for _, tail := range []string{"", "z", "\x80", "\xff", "\xbf\xbf\xbf\xbf\xbf\xbf\xbf", "\x00\xfe"} {
			wantDecode(t, append(bytes.Clone(b), tail...), n, len(b), api.OK)
		}
	}
}

// P3.2: no byte, a nil list and an empty one.
func TestDecodeNone(t *testing.T) {
	wantDecode(t, nil, 0, 0, api.ErrShort)
	wantDecode(t, []byte{}, 0, 0, api.ErrShort)
}

// P3.2: each first byte by itself: 128 are numbers, 65 begin nothing, of the others too few are there.
func TestDecodeFirst(t *testing.T) {
	for c := range 256 {
		switch {
		case c < 0x80:
			wantDecode(t, []byte{byte(c)}, c, 1, api.OK)
		case c < 0xc0 || c == 0xff:
			wantDecode(t, []byte{byte(c)}, 0, 0, api.ErrForm)
			wantDecode(t, []byte{byte(c), 0x80, 0x80, 0x80, 0x80, 0x80, 0x80, 0x80}, 0, 0, api.ErrForm)
		default:
			wantDecode(t, []byte{byte(c)}, 0, 0, api.ErrShort)
		}
	}
}

// P3.2: bytes that are cut off at each place.
func TestDecodeCut(t *testing.T) {
	for _, n := range some() {
		b := written(n, sized(n))
		for i := range b {
			wantDecode(t, b[:i], 0, 0, api.ErrShort)
		}
	}
}

// P3.2: at each place behind the first byte, each byte that doesn't begin with the bits 1 and 0, whether more stand behind it or not.
func TestDecodeBehind(t *testing.T) {
	for _, n := range last[1:] {
		b := written(n, sized(n))
		for i := 1; i < len(b); i++ {
			for c := range 256 {
				if c >= 0x80 && c < 0xc0 {
					continue
				}
				wrong := bytes.Clone(b)
				wrong[i] = byte(c)
				wantDecode(t, wrong, 0, 0, api.ErrForm)
				wantDecode(t, wrong[:i+1], 0, 0, api.ErrForm)
				wantDecode(t, wrong[:i], 0, 0, api.ErrShort)
			}
		}
	}
}

// P3.2: a number in more bytes than it needs, by each size that is too great.
func TestDecodeLesserSize(t *testing.T) {
	for _, n := range some() {
		for size := sized(n) + 1; size <= 7; size++ {
			b := written(n, size)
			wantDecode(t, b, 0, 0, api.ErrForm)
			wantDecode(t, append(b, 'z'), 0, 0, api.ErrForm)
		}
	}
}

// P3.2: which is told first: bytes are asked one by one, and the size of the number behind all of them.
func TestDecodeFirstError(t *testing.T) {
	for _, x := range []struct {
		b    string
		want api.Errno
	}{
		// No byte behind these is asked for.
		{"\x80", api.ErrForm}, {"\xbf", api.ErrForm}, {"\xff", api.ErrForm},
		// A wrong byte stands ahead of one that is missing, and of a lesser size.
		{"\xe2z", api.ErrForm}, {"\xfe\x80\x80\xc0", api.ErrForm},
		// One is missing: what is there would have a lesser size.
		{"\xc0", api.ErrShort}, {"\xc1", api.ErrShort}, {"\xe0\x80", api.ErrShort}, {"\xfe\x80\x80\x80\x80\x80", api.ErrShort},
		// One is missing, and none ahead of it is wrong.
		{"\xfe\xbf\xbf\xbf\xbf\xbf", api.ErrShort},
		// The last one is wrong, whatever stands behind it.
		{"\xfe\xbf\xbf\xbf\xbf\xbf\x3f\xbf\xbf", api.ErrForm},
		// The greatest number of each lesser size, in one byte more.
		{"\xc1\xbf", api.ErrForm}, {"\xe0\x9f\xbf", api.ErrForm}, {"\xf0\x8f\xbf\xbf", api.ErrForm}, {"\xf8\x87\xbf\xbf\xbf", api.ErrForm}, {"\xfc\x83\xbf\xbf\xbf\xbf", api.ErrForm}, {"\xfe\x81\xbf\xbf\xbf\xbf\xbf", api.ErrForm},
	} {
		wantDecode(t, []byte(x.b), 0, 0, x.want)
	}
}

// P3.3: of any two bytes and three, what is read is, written, the same bytes; each number of up to 16 bits is read once.
func TestDecodedIsEncoded(t *testing.T) {
	seen := map[int]int{}
	for i := range 1 << 24 {
		b := []byte{byte(i >> 16), byte(i >> 8), byte(i)}
		n, size, e := Decode(b)
		if e != api.OK {
			continue
		}
		if i<<(8*size)&(1<<24-1) != 0 {
			continue // seen with zeros behind it
		}
		seen[n]++
		if again, e := Encode(n); e != api.OK || !bytes.Equal(again, b[:size]) {
			t.Fatalf("%x is %d, which is %x with %d", b[:size], n, again, e)
		}
	}
	if len(seen) != 1<<16 {
		t.Fatalf("%d numbers are read", len(seen))
	}
	for n, many := range seen {
		if many != 1 || n >= 1<<16 {
			t.Fatalf("%d is read %d times", n, many)
		}
	}
}

// P3.3: greater numbers have no lesser sizes, and stand behind lesser ones in the order of their bytes.
func TestOrder(t *testing.T) {
	before, least := []byte(nil), 0
	for _, n := range some() {
		b, _ := Encode(n)
		if bytes.Compare(before, b) >= 0 {
			t.Fatalf("%d: %x stands behind %x", n, b, before)
		}
		if Size(n) < least {
			t.Fatalf("Size(%d) is %d, a lesser one has %d", n, Size(n), least)
		}
		before, least = b, Size(n)
	}
}

// P3.3: every rune has the bytes that it has in a text; those among them that are none are written as others are.
func TestRunes(t *testing.T) {
	for n := range utf8.MaxRune + 1 {
		b, e := Encode(int(n))
		want := string(n)
		if n >= 0xd800 && n < 0xe000 {
			want = string(written(int(n), 3))
		}
		if string(b) != want || e != api.OK || Size(int(n)) != len(want) {
			t.Fatalf("Encode(%x) is %x with %d, want %x", n, b, e, want)
		}
		wantDecode(t, b, int(n), len(b), api.OK)
	}
}

// R5: an answer is memory of its own.
func TestEncodeIsNew(t *testing.T) {
	for _, n := range []int{'a', 8364, 0xd800, api.MaxTotal} {
		b, _ := Encode(n)
		clear(b)
		if again, _ := Encode(n); !bytes.Equal(again, written(n, sized(n))) {
			t.Errorf("Encode(%d) is %x the second time", n, again)
		}
	}
}

// P3.2, P3.3: of any bytes there is a number that is written as they are, or none and an error that the chapter lists.
func FuzzDecode(f *testing.F) {
	f.Add([]byte("\xe2\x82\xac"))
	f.Add([]byte("\xfe\xbf\xbf\xbf\xbf\xbf\xbf"))
	f.Add([]byte("\xc1\x80z"))
	f.Fuzz(func(t *testing.T, b []byte) {
		n, size, e := Decode(b)
		if e != api.OK {
			if n != 0 || size != 0 || e != api.ErrShort && e != api.ErrForm {
				t.Fatalf("%x: %d, %d, %d", b, n, size, e)
			}
			return
		}
		if n < 0 || n > api.MaxTotal || size != sized(n) || !bytes.HasPrefix(b, written(n, size)) {
			t.Fatalf("%x: %d, %d", b, n, size)
		}
	})
}
