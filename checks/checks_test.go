package checks

import (
	"bytes"
	"testing"
)

// bitInto is a register of so many bits into which a bit went, by the chapter's own words.
func bitInto(check, bit, by uint32, wide int) uint32 {
	bit ^= check >> (wide - 1) & 1
	check = check << 1 & (1<<wide - 1)
	if bit == 1 {
		check ^= by
	}
	return check
}

// bytesInto is one into which bytes went, bit by bit.
func bytesInto(check uint32, b []byte, by uint32, wide int) uint32 {
	for _, c := range b {
		for i := 7; i >= 0; i-- {
			check = bitInto(check, uint32(c>>i&1), by, wide)
		}
	}
	return check
}

// model8 is what Eight must be, model16 what Sixteen must be.
func model8(check byte, b []byte) byte { return byte(bytesInto(uint32(check), b, 0x07, 8)) }

func model16(check uint16, b []byte) uint16 {
	return uint16(bytesInto(uint32(check), b, 0x8005, 16))
}

// unruly makes bytes that look unruly, always the same ones.
func unruly(seed uint64, many int) []byte {
	b := make([]byte, many)
	n := seed*0x9e3779b97f4a7c15 + 1
	for i := range b {
		n = n*6364136223846793005 + 1442695040888963407
		b[i] = byte(n >> 56)
	}
	return b
}

// some are lists of bytes: none, single ones, all the same, texts, and unruly ones of many lengths.
func some() [][]byte {
	all := [][]byte{
		nil, {}, {0}, {1}, {0x0f}, {0x10}, {0x80}, {0xf0}, {0xff},
		bytes.Repeat([]byte{0}, 40), bytes.Repeat([]byte{0xff}, 40), bytes.Repeat([]byte{0x80, 0x05}, 20),
		[]byte("123456789"), []byte("serinette"), []byte("fLaC"),
	}
	for many := 1; many < 70; many++ {
		all = append(all, unruly(uint64(many), many))
	}
	return append(all, unruly(4096, 4096), unruly(65537, 65537))
}

// Registers from which checks go on: 0, edges, and others.
var (
	some8  = []byte{0, 1, 3, 0x07, 0x0f, 0x10, 0x7f, 0x80, 0x89, 0xa5, 0xf0, 0xf4, 0xff}
	some16 = []uint16{0, 1, 3, 0x0f, 0x10, 0xff, 0x100, 0xf00, 0x1000, 0x7fff, 0x8000, 0x8005, 0xa5c3, 0xf000, 0xfee8, 0xff00, 0xffff}
)

// P4.1, P4.2: the chapter's example, and others by hand.
func TestExamples(t *testing.T) {
	tables := Build()
	for _, x := range []struct {
		s       string
		eight   byte
		sixteen uint16
	}{
		{"", 0, 0}, {"\x00", 0, 0}, {"\x00\x00\x00\x00", 0, 0},
		{"\x01", 0x07, 0x8005}, {"\x02", 0x0e, 0x800f}, {"\x10", 0x70, 0x8063}, {"\x80", 0x89, 0x8303},
		{"\x00\x01", 0x07, 0x8005}, {"\x01\x00", 0x15, 0x8603},
		{"123456789", 0xf4, 0xfee8},
	} {
		b := []byte(x.s)
		if eight, sixteen := Eight(b), Sixteen(b); eight != x.eight || sixteen != x.sixteen {
			t.Errorf("%x: %02x, %04x, want %02x, %04x", x.s, eight, sixteen, x.eight, x.sixteen)
		}
		if eight, sixteen := tables.Eight(0, b), tables.Sixteen(0, b); eight != x.eight || sixteen != x.sixteen {
			t.Errorf("%x: %02x, %04x of the tables, want %02x, %04x", x.s, eight, sixteen, x.eight, x.sixteen)
		}
	}
}

// P4.1: no bytes leave each register as it is, whether their list is nil or empty.
func TestNoBytes(t *testing.T) {
	tables := Build()
	for _, none := range [][]byte{nil, {}, []byte("ab")[:0]} {
		for check := range 1 << 8 {
			if got := tables.Eight(byte(check), none); got != byte(check) {
				t.Fatalf("%02x is %02x", check, got)
			}
		}
		for check := range 1 << 16 {
			if got := tables.Sixteen(uint16(check), none); got != uint16(check) {
				t.Fatalf("%04x is %04x", check, got)
			}
		}
		if Eight(none) != 0 || Sixteen(none) != 0 {
			t.Errorf("%02x, %04x", Eight(none), Sixteen(none))
		}
	}
}

// P4.1: each byte goes into each register of 8 bits, and into each of 16.
func TestEachRegister(t *testing.T) {
	tables := Build()
	b := make([]byte, 1)
	for c := range 1 << 8 {
		b[0] = byte(c)
		for check := range 1 << 8 {
			if got, want := tables.Eight(byte(check), b), model8(byte(check), b); got != want {
				t.Fatalf("%02x into %02x: %02x, want %02x", c, check, got, want)
			}
		}
		for check := range 1 << 16 {
			if got, want := tables.Sixteen(uint16(check), b), model16(uint16(check), b); got != want {
				t.Fatalf("%02x into %04x: %04x, want %04x", c, check, got, want)
			}
		}
	}
}

// P4.1: many bytes go into registers that are 0 and that aren't.
func TestManyBytes(t *testing.T) {
	tables := Build()
	for _, b := range some() {
		for _, check := range some8 {
			if got, want := tables.Eight(check, b), model8(check, b); got != want {
				t.Errorf("%d bytes into %02x: %02x, want %02x", len(b), check, got, want)
			}
		}
		for _, check := range some16 {
			if got, want := tables.Sixteen(check, b), model16(check, b); got != want {
				t.Errorf("%d bytes into %04x: %04x, want %04x", len(b), check, got, want)
			}
		}
	}
}

// P4.2: without tables a register is 0.
func TestOfZero(t *testing.T) {
	for _, b := range some() {
		if got, want := Eight(b), model8(0, b); got != want {
			t.Errorf("%d bytes: %02x, want %02x", len(b), got, want)
		}
		if got, want := Sixteen(b), model16(0, b); got != want {
			t.Errorf("%d bytes: %04x, want %04x", len(b), got, want)
		}
	}
}

// P4.3: in two parts, wherever these meet (one of them may have nothing), a check goes on.
func TestTwoParts(t *testing.T) {
	tables := Build()
	for _, b := range some() {
		if len(b) > 100 {
			continue
		}
		for i := range len(b) + 1 {
			for _, check := range some8 {
				if got := tables.Eight(tables.Eight(check, b[:i]), b[i:]); got != tables.Eight(check, b) {
					t.Fatalf("%x from %02x, cut at %d: %02x", b, check, i, got)
				}
			}
			for _, check := range some16 {
				if got := tables.Sixteen(tables.Sixteen(check, b[:i]), b[i:]); got != tables.Sixteen(check, b) {
					t.Fatalf("%x from %04x, cut at %d: %04x", b, check, i, got)
				}
			}
		}
	}
}

// P4.3: in several parts of one length, down to single bytes; the tables may be others for each part.
func TestSeveralParts(t *testing.T) {
	for _, b := range some() {
		if len(b) > 5000 {
			continue
		}
		for _, many := range []int{1, 2, 3, 7, 16, 1000} {
			eight, sixteen := byte(0), uint16(0)
			for left := b; len(left) > 0; {
				next := min(many, len(left))
				eight = Build().Eight(eight, left[:next])
				sixteen = Build().Sixteen(sixteen, left[:next])
				left = left[next:]
			}
			if eight != Eight(b) || sixteen != Sixteen(b) {
				t.Errorf("%d bytes by %d: %02x, %04x, want %02x, %04x", len(b), many, eight, sixteen, Eight(b), Sixteen(b))
			}
		}
	}
}

// P4.3: bytes with their check behind them leave 0, from any register; of 16 bits the higher byte is first.
func TestCheckBehind(t *testing.T) {
	tables := Build()
	for _, b := range some() {
		b = b[:len(b):len(b)]
		for _, from := range some8 {
			if got := tables.Eight(from, append(b, tables.Eight(from, b))); got != 0 {
				t.Errorf("%d bytes from %02x leave %02x", len(b), from, got)
			}
		}
		for _, from := range some16 {
			n := tables.Sixteen(from, b)
			if got := tables.Sixteen(from, append(b, byte(n>>8), byte(n))); got != 0 {
				t.Errorf("%d bytes from %04x leave %04x", len(b), from, got)
			}
		}
	}
}

// P4.3: no other bytes in the check's place leave 0, so neither do the check's own with the lower one first.
func TestWrongBehind(t *testing.T) {
	tables := Build()
	b := []byte("serinette")
	eight, sixteen := Eight(b), Sixteen(b)
	for n := range 1 << 8 {
		if left := tables.Eight(eight, []byte{byte(n)}); (left == 0) != (byte(n) == eight) {
			t.Fatalf("%02x behind, %02x left", n, left)
		}
	}
	for n := range 1 << 16 {
		if left := tables.Sixteen(sixteen, []byte{byte(n >> 8), byte(n)}); (left == 0) != (uint16(n) == sixteen) {
			t.Fatalf("%04x behind, %04x left", n, left)
		}
	}
	if sixteen>>8 == sixteen&0xff {
		t.Error("the check's two bytes are the same")
	}
}

// turn turns bits of bytes over: those of a pattern that ends with the bit of the number last, counted from the first byte's highest one.
func turn(b []byte, pattern uint32, last int) []byte {
	b = bytes.Clone(b)
	for i := last; pattern != 0; i-- {
		b[i/8] ^= byte(pattern&1) << (7 - i%8)
		pattern >>= 1
	}
	return b
}

// P4.3: what differs within 8 bits in a row has another check of 8 bits, wherever they begin, also across bytes.
func TestDiffer8(t *testing.T) {
	tables := Build()
	for _, b := range [][]byte{{0x5a}, []byte("123456789"), make([]byte, 5), unruly(8, 33)} {
		for _, from := range []byte{0, 1, 0xa5, 0xff} {
			check := tables.Eight(from, b)
			for last := 7; last < 8*len(b); last++ {
				for pattern := uint32(1); pattern < 1<<8; pattern++ {
					if tables.Eight(from, turn(b, pattern, last)) == check {
						t.Fatalf("%x from %02x: the bits %b up to %d aren't seen", b, from, pattern, last)
					}
				}
			}
		}
	}
}

// P4.3: what differs within 16 bits in a row has another check of 16 bits.
func TestDiffer16(t *testing.T) {
	tables := Build()
	for _, b := range [][]byte{{0x5a, 0xc3}, []byte("fLaC"), unruly(16, 7)} {
		for _, from := range []uint16{0, 0xa5c3} {
			check := tables.Sixteen(from, b)
			for last := 15; last < 8*len(b); last++ {
				for pattern := uint32(1); pattern < 1<<16; pattern++ {
					if tables.Sixteen(from, turn(b, pattern, last)) == check {
						t.Fatalf("%x from %04x: the bits %b up to %d aren't seen", b, from, pattern, last)
					}
				}
			}
		}
	}
}

// P4.3 tells no more than that: of 9 bits in a row, and of 17, one difference isn't seen, by which the checks are known.
func TestNotSeen(t *testing.T) {
	tables := Build()
	b := []byte("123456789")
	for last := 16; last < 8*len(b); last++ {
		for pattern := uint32(1 << 8); pattern < 1<<9; pattern++ {
			if same := Eight(turn(b, pattern, last)) == 0xf4; same != (pattern == 0x107) {
				t.Fatalf("bits %x up to %d: %t", pattern, last, same)
			}
		}
	}
	for pattern := uint32(1 << 16); pattern < 1<<17; pattern++ {
		if same := tables.Sixteen(0, turn(b, pattern, 45)) == 0xfee8; same != (pattern == 0x18005) {
			t.Fatalf("bits %x: %t", pattern, same)
		}
	}
}

// R5, R6: bytes stay as they are, and tables answer the same again, whatever was asked of them or of others between.
func TestAgain(t *testing.T) {
	tables := Build()
	for _, b := range some() {
		kept := bytes.Clone(b)
		eight, sixteen := tables.Eight(0x80, b), tables.Sixteen(0x8000, b)
		tables.Sixteen(0xffff, b)
		tables.Eight(0xff, b)
		Eight(b)
		Sixteen(b)
		if tables.Eight(0x80, b) != eight || tables.Sixteen(0x8000, b) != sixteen {
			t.Errorf("%d bytes: not the same again", len(b))
		}
		if Build().Eight(0x80, b) != eight || Build().Sixteen(0x8000, b) != sixteen {
			t.Errorf("%d bytes: not the same of other tables", len(b))
		}
		if !bytes.Equal(b, kept) {
			t.Errorf("%x became %x", kept, b)
		}
	}
}

// P4.1, P4.2, P4.3: any bytes, from any registers.
func FuzzChecks(f *testing.F) {
	f.Add(byte(0), uint16(0), []byte("123456789"))
	f.Add(byte(0xff), uint16(0xffff), []byte{})
	f.Add(byte(0x80), uint16(0x8000), []byte("\x80\x05\x00"))
	f.Fuzz(func(t *testing.T, eight byte, sixteen uint16, b []byte) {
		tables := Build()
		if got, want := tables.Eight(eight, b), model8(eight, b); got != want {
			t.Fatalf("%x into %02x: %02x, want %02x", b, eight, got, want)
		}
		if got, want := tables.Sixteen(sixteen, b), model16(sixteen, b); got != want {
			t.Fatalf("%x into %04x: %04x, want %04x", b, sixteen, got, want)
		}
		if Eight(b) != model8(0, b) || Sixteen(b) != model16(0, b) {
			t.Fatalf("%x: %02x, %04x", b, Eight(b), Sixteen(b))
		}
	})
}
