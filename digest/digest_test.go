package digest

import (
	"bytes"
	"crypto/md5"
	"encoding/binary"
	"encoding/hex"
	"math"
	"slices"
	"testing"
)

// told16 is a digest as digits.
func told16(d [Size]byte) string { return hex.EncodeToString(d[:]) }

// unruly makes bytes that look unruly, always the same ones.
func unruly(seed uint64, many int) []byte {
	b := make([]byte, many)
	n := seed*0x9e3779b97f4a7c15 + 1
	for i := range b {
		n = n*6364136223846793005 + 1442695040888963407
		b[i] = byte(n >> 56)
	}
	return b
}

// texts are of all lengths up to some blocks, of bytes that are 0, ff, 80 (as what fills begins), and unruly; and a few long ones.
func texts() [][]byte {
	all := [][]byte{nil, {}}
	for many := range 5*64 + 3 {
		all = append(all, make([]byte, many), bytes.Repeat([]byte{0xff}, many), bytes.Repeat([]byte{0x80}, many), unruly(uint64(many), many))
	}
	for _, many := range []int{1000, 4095, 4096, 4097, 65535, 65536, 1<<20 + 55, 1<<20 + 56} {
		all = append(all, unruly(uint64(many), many))
	}
	return all
}

// edges are lengths about which a block ends, alone or with what fills it.
var edges = []int{0, 1, 3, 4, 54, 55, 56, 57, 62, 63, 64, 65, 119, 120, 121, 127, 128, 129, 183, 184, 191, 192, 193, 256}

// P5.1, P5.2: the chapter's examples, those of RFC 1321, and texts that end where a block can.
func TestExamples(t *testing.T) {
	for _, x := range []struct {
		text []byte
		want string
	}{
		{nil, "d41d8cd98f00b204e9800998ecf8427e"},
		{[]byte{}, "d41d8cd98f00b204e9800998ecf8427e"},
		{[]byte("a"), "0cc175b9c0f1b6a831c399e269772661"},
		{[]byte("abc"), "900150983cd24fb0d6963f7d28e17f72"},
		{[]byte("message digest"), "f96b697d7cb7938d525a2f31aaf161d0"},
		{[]byte("abcdefghijklmnopqrstuvwxyz"), "c3fcd3d76192e4007dfb496cca67e13b"},
		{[]byte("ABCDEFGHIJKLMNOPQRSTUVWXYZabcdefghijklmnopqrstuvwxyz0123456789"), "d174ab98d277d9f5a5611c2c9f419d9f"},
		{bytes.Repeat([]byte("1234567890"), 8), "57edf4a22be3c955ac49da2e2107b67a"},
		{bytes.Repeat([]byte("a"), 55), "ef1772b6dff9a122358552954ad0df65"},
		{bytes.Repeat([]byte("a"), 56), "3b0c8ac703f828b04c6c197006d17218"},
		{bytes.Repeat([]byte("a"), 57), "652b906d60af96844ebd21b674f35e93"},
		{bytes.Repeat([]byte("a"), 63), "b06521f39153d618550606be297466d5"},
		{bytes.Repeat([]byte("a"), 64), "014842d480b571495a4a0363793f7367"},
		{bytes.Repeat([]byte("a"), 65), "c743a45e0d2e6a95cb859adae0248435"},
		{bytes.Repeat([]byte("a"), 1000000), "7707d6ae4e027c70eea2a935c2296f21"},
	} {
		if got := told16(Of(x.text)); got != x.want {
			t.Errorf("%d bytes: %s, want %s", len(x.text), got, x.want)
		}
		s := New()
		s.Add(x.text)
		if got := told16(s.Sum()); got != x.want {
			t.Errorf("%d bytes, added: %s, want %s", len(x.text), got, x.want)
		}
	}
}

// P5.1: the table is made of sines: 2^32 times each, cut off.
func TestTable(t *testing.T) {
	if len(sines) != 64 {
		t.Fatal(len(sines))
	}
	for i, got := range sines {
		if want := uint32(math.Abs(math.Sin(float64(i+1))) * (1 << 32)); got != want {
			t.Errorf("%d: %08x, want %08x", i, got, want)
		}
	}
}

// P5.1: bit by bit, what each kind of steps mixes three bits to; and, step by step, which word it takes and by how much it turns.
func TestKinds(t *testing.T) {
	const b, c, d = 0b00001111, 0b00110011, 0b01010101
	mixed := [4]uint32{0b01010011, 0b00100111, 0b01101001, 0b10011100}
	words := [4][16]int{
		{0, 1, 2, 3, 4, 5, 6, 7, 8, 9, 10, 11, 12, 13, 14, 15},
		{1, 6, 11, 0, 5, 10, 15, 4, 9, 14, 3, 8, 13, 2, 7, 12},
		{5, 8, 11, 14, 1, 4, 7, 10, 13, 0, 3, 6, 9, 12, 15, 2},
		{0, 7, 14, 5, 12, 3, 10, 1, 8, 15, 6, 13, 4, 11, 2, 9},
	}
	turns := [4][4]int{{7, 12, 17, 22}, {5, 9, 14, 20}, {4, 11, 16, 23}, {6, 10, 15, 21}}
	for n, k := range kinds() {
		if got := k.mix(b, c, d) & 0xff; got != mixed[n] {
			t.Errorf("kind %d mixes to %08b, want %08b", n, got, mixed[n])
		}
		for i, want := range words[n] {
			if got := (k.times*(16*n+i) + k.plus) % 16; got != want {
				t.Errorf("step %d takes %d, want %d", 16*n+i, got, want)
			}
		}
		if k.turns != turns[n] {
			t.Errorf("kind %d turns by %d, want %d", n, k.turns, turns[n])
		}
	}
}

// P5.1: behind a text of so many bytes, up to as many as may ever be, is the byte 80, as few bytes 0 as can be, and the number of bits, the lowest byte first.
func TestFilling(t *testing.T) {
	counts := []int{1<<29 - 1, 1 << 29, 1<<29 + 1, 1<<31 - 9, 1<<31 - 8, 1<<31 - 1}
	for many := range 200 {
		counts = append(counts, many)
	}
	for _, count := range counts {
		fill := filling(count)
		zeros := len(fill) - 9
		if zeros < 0 || zeros > 63 || (count+len(fill))%64 != 0 {
			t.Fatalf("%d bytes: %x fills them", count, fill)
		}
		if fill[0] != 0x80 || slices.ContainsFunc(fill[1:1+zeros], func(c byte) bool { return c != 0 }) {
			t.Errorf("%d bytes: %x fills them", count, fill)
		}
		if got := binary.LittleEndian.Uint64(fill[1+zeros:]); got != uint64(count)*8 {
			t.Errorf("%d bytes: %d bits are told", count, got)
		}
	}
}

// P5.1, P5.2: texts of all lengths, and of several blocks, against another program of the same.
func TestOf(t *testing.T) {
	for _, b := range texts() {
		if got, want := Of(b), md5.Sum(b); got != want {
			t.Errorf("%d bytes: %x, want %x", len(b), got, want)
		}
	}
}

// P5.1: each bit of a text is in its digest, wherever it is in a block: so is its length.
func TestEachBit(t *testing.T) {
	for _, many := range []int{1, 55, 56, 64, 130} {
		b := unruly(uint64(many), many)
		seen := map[[Size]byte]int{Of(b): -1}
		for i := range 8 * many {
			b[i/8] ^= 1 << (i % 8)
			got := Of(b)
			if got != md5.Sum(b) {
				t.Errorf("%d bytes, bit %d: %x, want %x", many, i, got, md5.Sum(b))
			}
			if other, ok := seen[got]; ok {
				t.Errorf("%d bytes: bits %d and %d tell the same", many, i, other)
			}
			seen[got] = i
			b[i/8] ^= 1 << (i % 8)
		}
	}
}

// P5.1, P5.2: a text of 2^32 bits: their number has more than four bytes.
func TestLong(t *testing.T) {
	part := make([]byte, 1<<20)
	s := New()
	for range 1<<9 - 1 {
		s.Add(part)
	}
	s.Add(part[1:])
	if got := told16(s.Sum()); got != "c6c4834a7b0928878ad48c867a1e24d6" || s.Len() != 1<<29-1 {
		t.Errorf("%d bytes: %s", s.Len(), got)
	}
	s.Add(part[:1])
	if got := told16(s.Sum()); got != "aa559b4e3523a6c931f08f4df52d58f2" || s.Len() != 1<<29 {
		t.Errorf("%d bytes: %s", s.Len(), got)
	}
}

// P5.2: a state to which nothing was added, or parts of no bytes alone.
func TestNothing(t *testing.T) {
	s := New()
	for _, none := range [][]byte{nil, {}, []byte("ab")[:0], nil} {
		if got := told16(s.Sum()); got != "d41d8cd98f00b204e9800998ecf8427e" || s.Len() != 0 {
			t.Errorf("%s of %d bytes", got, s.Len())
		}
		s.Add(none)
	}
	if s.Sum() != Of(nil) || s.Sum() != Of([]byte{}) || *s != *New() {
		t.Error("no bytes changed a state")
	}
}

// P5.2: Len tells how many bytes were added, whatever their parts are, and whether a digest was told in between.
func TestLen(t *testing.T) {
	s := New()
	want := 0
	for _, many := range append(edges, 1000, 0, 4096, 1, 0) {
		s.Add(make([]byte, many))
		want += many
		if s.Len() != want {
			t.Fatalf("%d bytes were added, %d are told", want, s.Len())
		}
		s.Sum()
		if s.Len() != want {
			t.Fatalf("behind Sum: %d bytes were added, %d are told", want, s.Len())
		}
	}
}

// P5.3: in two parts, wherever these meet (one of them may have nothing).
func TestTwoParts(t *testing.T) {
	for _, many := range edges {
		b := unruly(uint64(many), many)
		want := md5.Sum(b)
		for i := range many + 1 {
			s := New()
			s.Add(b[:i])
			s.Add(b[i:])
			if got := s.Sum(); got != want || s.Len() != many {
				t.Fatalf("%d bytes, cut at %d: %x of %d, want %x", many, i, got, s.Len(), want)
			}
		}
	}
}

// P5.3: in three parts, each of a length about which a block ends.
func TestThreeParts(t *testing.T) {
	for _, first := range edges {
		for _, next := range edges {
			for _, last := range edges {
				b := unruly(uint64(first*1000+next), first+next+last)
				s := New()
				s.Add(b[:first])
				s.Add(b[first : first+next])
				s.Add(b[first+next:])
				if got, want := s.Sum(), md5.Sum(b); got != want {
					t.Fatalf("%d, %d and %d bytes: %x, want %x", first, next, last, got, want)
				}
			}
		}
	}
}

// P5.3: in many parts of one length, down to single bytes, with parts of no bytes between them.
func TestManyParts(t *testing.T) {
	for _, b := range texts() {
		if len(b) > 5000 {
			continue
		}
		want := md5.Sum(b)
		for _, many := range []int{1, 2, 3, 7, 55, 56, 63, 64, 65, 128, 1000} {
			s := New()
			for part := range slices.Chunk(b, many) {
				s.Add(part)
				s.Add(nil)
				s.Add([]byte{})
			}
			if got := s.Sum(); got != want || s.Len() != len(b) {
				t.Fatalf("%d bytes by %d: %x of %d, want %x", len(b), many, got, s.Len(), want)
			}
		}
	}
}

// P5.2, P5.3: a digest that is told in between, even twice, is that of what was added so far, and changes nothing of what comes.
func TestGoesOn(t *testing.T) {
	for _, many := range []int{1, 3, 8, 55, 56, 64, 65} {
		b := unruly(uint64(many), 500)
		s := New()
		at := 0
		for part := range slices.Chunk(b, many) {
			kept := *s
			for range 2 {
				if got, want := s.Sum(), md5.Sum(b[:at]); got != want {
					t.Fatalf("by %d, behind %d bytes: %x, want %x", many, at, got, want)
				}
			}
			if *s != kept {
				t.Fatalf("by %d, behind %d bytes: Sum changed the state", many, at)
			}
			s.Add(part)
			at += len(part)
		}
		if got, want := s.Sum(), md5.Sum(b); got != want || s.Len() != len(b) {
			t.Errorf("by %d: %x of %d, want %x", many, got, s.Len(), want)
		}
	}
}

// R6: two states side by side know nothing of each other, nor does Of of either.
func TestSideBySide(t *testing.T) {
	left, right := unruly(1, 400), unruly(2, 800)
	l, r := New(), New()
	for i := range 400 {
		l.Add(left[i : i+1])
		r.Add(right[2*i : 2*i+2])
		Of(right[:i])
		if got, want := l.Sum(), md5.Sum(left[:i+1]); got != want || l.Len() != i+1 {
			t.Fatalf("left, %d bytes: %x of %d, want %x", i+1, got, l.Len(), want)
		}
		if got, want := r.Sum(), md5.Sum(right[:2*i+2]); got != want || r.Len() != 2*i+2 {
			t.Fatalf("right, %d bytes: %x of %d, want %x", 2*i+2, got, r.Len(), want)
		}
	}
}

// R5: what was added is kept, not where it was: the bytes may be changed afterwards, and are changed by nobody else.
func TestKept(t *testing.T) {
	for _, many := range edges {
		b := unruly(uint64(many), many)
		all := bytes.Clone(b)
		s := New()
		s.Add(b)
		want := s.Sum()
		if !bytes.Equal(b, all) || Of(b) != want || !bytes.Equal(b, all) {
			t.Fatalf("%d bytes were changed", many)
		}
		clear(b)
		if got := s.Sum(); got != want {
			t.Errorf("%d bytes, changed afterwards: %x, want %x", many, got, want)
		}
		s.Add(b)
		all = append(all, b...)
		for i := range b {
			b[i] = 0xff
		}
		if got, want := s.Sum(), md5.Sum(all); got != want {
			t.Errorf("%d bytes twice, changed afterwards: %x, want %x", many, got, want)
		}
	}
}

// R5: bytes behind those that are added, in one array with them, aren't touched; and a digest that was told is its owner's.
func TestApart(t *testing.T) {
	room := bytes.Repeat([]byte{0xaa}, 300)
	for _, many := range edges {
		s := New()
		s.Add(room[:many])
		d := s.Sum()
		kept := d
		d[0]++
		if again := s.Sum(); again != kept || Of(room[:many]) != kept {
			t.Errorf("%d bytes: %x, and again %x", many, kept, again)
		}
	}
	if !bytes.Equal(room, bytes.Repeat([]byte{0xaa}, 300)) {
		t.Error("bytes were touched")
	}
}

// P5.2, P5.3: any bytes, in any three parts, told in between.
func FuzzParts(f *testing.F) {
	f.Add([]byte("abc"), []byte(nil), []byte("d"))
	f.Add(unruly(1, 55), unruly(2, 1), unruly(3, 8))
	f.Add(unruly(1, 64), unruly(2, 128), unruly(3, 63))
	f.Fuzz(func(t *testing.T, x, y, z []byte) {
		s := New()
		var all []byte
		for _, part := range [][]byte{x, y, z} {
			s.Add(part)
			all = append(all, part...)
			if want := md5.Sum(all); s.Sum() != want || Of(all) != want || s.Len() != len(all) {
				t.Fatalf("%x, %x of %d, want %x", s.Sum(), Of(all), s.Len(), want)
			}
		}
	})
}
