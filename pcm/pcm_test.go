package pcm

import (
	"bytes"
	"math"
	"slices"
	"testing"

	"serinette/api"
)

// same tells whether two sounds are alike; a list that is nil and an empty one are.
func same(a, b api.Sound) bool {
	return a.Rate == b.Rate && a.Depth == b.Depth && slices.EqualFunc(a.Channels, b.Channels, slices.Equal[[]int])
}

// clone is a sound like another one, in memory of its own.
func clone(s api.Sound) api.Sound {
	other := api.Sound{Rate: s.Rate, Depth: s.Depth}
	for _, samples := range s.Channels {
		other.Channels = append(other.Channels, slices.Clone(samples))
	}
	return other
}

// least and greatest are the edges of a depth, by the chapter's own words.
func least(depth int) int { return -int(math.Pow(2, float64(depth-1))) }

func greatest(depth int) int { return int(math.Pow(2, float64(depth-1))) - 1 }

// unruly makes a sound whose samples look unruly, always the same ones; its first ones are the edges of the depth, and small ones.
func unruly(depth, channels, many int) api.Sound {
	s := api.Sound{Rate: 44100, Depth: depth}
	first := []int{least(depth), greatest(depth), -1, 0, 1, least(depth) + 1, greatest(depth) - 1}
	seed := uint64(depth)*0x9e3779b97f4a7c15 + uint64(channels)
	for c := range channels {
		samples := make([]int, many)
		for i := range samples {
			seed = seed*6364136223846793005 + 1442695040888963407
			samples[i] = int(int64(seed) >> (64 - depth))
			if i+c < len(first) {
				samples[i] = first[i+c]
			}
		}
		s.Channels = append(s.Channels, samples)
	}
	return s
}

// some are sounds of all depths, of one to eight channels, of no samples, of one, and of more.
func some() []api.Sound {
	var all []api.Sound
	for depth := api.MinDepth; depth <= api.MaxDepth; depth++ {
		for channels := 1; channels <= api.MaxChannels; channels++ {
			for _, many := range []int{0, 1, 2, 9, 20} {
				all = append(all, unruly(depth, channels, many))
			}
		}
	}
	return append(all, unruly(16, 2, 4096), unruly(24, 1, 65536))
}

// modelBytes is what Bytes must be: each sample modulo 256 to as many as its bytes are, by divisions.
func modelBytes(s api.Sound) []byte {
	var b []byte
	for i := range len(s.Channels[0]) {
		for c := range s.Channels {
			each, modulus := 0, 1
			for 8*each < s.Depth {
				each++
				modulus *= 256
			}
			n := (s.Channels[c][i]%modulus + modulus) % modulus
			for range each {
				b = append(b, byte(n%256))
				n /= 256
			}
		}
	}
	return b
}

// far are numbers at the ends of all that may be.
var far = []int{math.MinInt, math.MinInt + 1, -1 << 62, -1 << 32, 1 << 32, 1 << 62, math.MaxInt - 1, math.MaxInt}

// P6.2: the chapter's example, there and back.
func TestExample(t *testing.T) {
	s := api.Sound{Rate: 8000, Depth: 12, Channels: [][]int{{1, -1}, {2, 3}}}
	b := []byte{0x01, 0x00, 0x02, 0x00, 0xff, 0xff, 0x03, 0x00}
	if got := Bytes(s); !bytes.Equal(got, b) {
		t.Errorf("% x", got)
	}
	if got, e := Unbytes(b, 8000, 12, 2); e != api.OK || !same(got, s) {
		t.Errorf("%v: %v", e, got)
	}
}

// P6.1: the least and the greatest sample of each depth are in it; one less and one more aren't.
func TestInEdges(t *testing.T) {
	for depth := 1; depth <= 62; depth++ {
		low, high := least(depth), greatest(depth)
		for _, n := range []int{low, low / 2, -1, 0, high / 2, high} {
			if !In(n, depth) {
				t.Errorf("%d isn't in %d", n, depth)
			}
		}
		for _, n := range []int{low - 1, 2 * low, high + 1, 2*high + 1, math.MinInt, math.MinInt + 1, math.MaxInt} {
			if In(n, depth) {
				t.Errorf("%d is in %d", n, depth)
			}
		}
	}
	for _, x := range []struct {
		n, depth int
		want     bool
	}{{0, 1, true}, {-1, 1, true}, {1, 1, false}, {-2, 1, false}, {1, 2, true}, {-2, 2, true}, {2, 2, false}, {-3, 2, false}, {7, 4, true}, {8, 4, false}, {-8, 4, true}, {-9, 4, false}, {1<<61 - 1, 62, true}, {1 << 61, 62, false}, {-1 << 61, 62, true}, {-1<<61 - 1, 62, false}} {
		if got := In(x.n, x.depth); got != x.want {
			t.Errorf("%d in %d: %v", x.n, x.depth, got)
		}
	}
}

// P6.1: as many numbers as there are, of small depths.
func TestInMany(t *testing.T) {
	for depth := 1; depth <= 12; depth++ {
		count := 0
		for n := -5000; n <= 5000; n++ {
			if In(n, depth) {
				count++
			}
		}
		if count != 1<<depth {
			t.Errorf("%d are in %d", count, depth)
		}
	}
}

// P6.1: no number is in a depth below 1 or above 62.
func TestInNoDepth(t *testing.T) {
	depths := append([]int{-64, -2, -1, 0, 63, 64, 65, 66, 127, 128, 129, 256, 257}, far...)
	for _, depth := range depths {
		for _, n := range append([]int{-2, -1, 0, 1, 2}, far...) {
			if In(n, depth) {
				t.Errorf("%d is in %d", n, depth)
			}
		}
	}
}

// P6.1: sounds that can be, up to each bound.
func TestCheckOK(t *testing.T) {
	for _, s := range some() {
		for _, rate := range []int{1, 2, 8000, 44100, 655350, 1<<20 - 2, 1<<20 - 1} {
			s.Rate = rate
			if e := Check(s); e != api.OK {
				t.Errorf("depth %d, %d channels, rate %d: %v", s.Depth, len(s.Channels), rate, e)
			}
		}
	}
	for _, s := range []api.Sound{
		{Rate: 1, Depth: 4, Channels: make([][]int, 1)},
		{Rate: 1, Depth: 4, Channels: make([][]int, 8)},
		{Rate: 1, Depth: 4, Channels: [][]int{nil, {}}},
		{Rate: 1, Depth: 4, Channels: [][]int{{}, nil}},
	} {
		if e := Check(s); e != api.OK {
			t.Errorf("%v: %v", s, e)
		}
	}
}

// P6.1: each bound, one beyond it, and far beyond.
func TestCheckBounds(t *testing.T) {
	for _, many := range []int{0, 9, 10, 16, 256, 257} {
		if e := Check(api.Sound{Rate: 1, Depth: 8, Channels: make([][]int, many)}); e != api.ErrChannels {
			t.Errorf("%d channels: %v", many, e)
		}
	}
	if e := Check(api.Sound{Rate: 1, Depth: 8, Channels: [][]int{}}); e != api.ErrChannels {
		t.Errorf("an empty list of channels: %v", e)
	}
	if e := Check(api.Sound{}); e != api.ErrChannels {
		t.Errorf("nothing: %v", e)
	}
	for _, depth := range append([]int{-4, -1, 0, 1, 2, 3, 33, 34, 62, 63, 64}, far...) {
		if e := Check(api.Sound{Rate: 1, Depth: depth, Channels: [][]int{{0}}}); e != api.ErrDepth {
			t.Errorf("depth %d: %v", depth, e)
		}
	}
	for _, rate := range append([]int{-44100, -1, 0, 1 << 20, 1<<20 + 1}, far...) {
		if e := Check(api.Sound{Rate: rate, Depth: 8, Channels: [][]int{{0}}}); e != api.ErrRate {
			t.Errorf("rate %d: %v", rate, e)
		}
	}
}

// P6.1: channels of unlike lengths, whichever of them is another one, and in whichever way.
func TestCheckUneven(t *testing.T) {
	for channels := 2; channels <= 8; channels++ {
		for c := range channels {
			for _, many := range []int{0, 1, 2, 4, 5, 100} {
				s := unruly(8, channels, 3)
				s.Channels[c] = make([]int, many)
				if e := Check(s); e != api.ErrUneven {
					t.Errorf("channel %d of %d has %d samples: %v", c, channels, many, e)
				}
			}
		}
	}
	for _, x := range [][][]int{{{1}, nil}, {nil, {1}}, {{}, {1}}, {nil, nil, {1}}, {{1, 2}, {1}, {1, 2}}, {{1}, {1, 2}, {1}}, {{1}, {1}, {1, 2}}} {
		if e := Check(api.Sound{Rate: 1, Depth: 4, Channels: x}); e != api.ErrUneven {
			t.Errorf("%v: %v", x, e)
		}
	}
}

// P6.1: a sample that isn't in the depth is found wherever it is.
func TestCheckRange(t *testing.T) {
	for depth := api.MinDepth; depth <= api.MaxDepth; depth++ {
		s := unruly(depth, 3, 10)
		for c := range s.Channels {
			for i := range s.Channels[c] {
				kept := s.Channels[c][i]
				for _, n := range append([]int{least(depth) - 1, greatest(depth) + 1}, far...) {
					s.Channels[c][i] = n
					if e := Check(s); e != api.ErrRange {
						t.Fatalf("depth %d, %d as sample %d of channel %d: %v", depth, n, i, c, e)
					}
				}
				for _, n := range []int{least(depth), greatest(depth)} {
					s.Channels[c][i] = n
					if e := Check(s); e != api.OK {
						t.Fatalf("depth %d, %d as sample %d of channel %d: %v", depth, n, i, c, e)
					}
				}
				s.Channels[c][i] = kept
			}
		}
	}
}

// P6.1, R2: of any faults that are there together the first one is told.
func TestCheckFirst(t *testing.T) {
	order := []api.Errno{api.ErrChannels, api.ErrDepth, api.ErrRate, api.ErrUneven, api.ErrRange}
	for set := range 1 << len(order) {
		for _, beyond := range []bool{false, true} {
			s := unruly(8, 2, 3)
			if set&16 != 0 {
				s.Channels[0][0] = 1 << 40
			}
			if set&8 != 0 {
				s.Channels[1] = append(s.Channels[1], 0)
			}
			if set&4 != 0 {
				s.Rate = map[bool]int{false: 0, true: 1 << 20}[beyond]
			}
			if set&2 != 0 {
				s.Depth = map[bool]int{false: 3, true: 33}[beyond]
			}
			if set&1 != 0 && beyond {
				s.Channels = append(s.Channels, make([][]int, 7)...)
			} else if set&1 != 0 {
				s.Channels = nil
			}
			want := api.OK
			for i, e := range order {
				if set&(1<<i) != 0 {
					want = e
					break
				}
			}
			if e := Check(s); e != want {
				t.Errorf("faults %05b, beyond %v: %v, want %v", set, beyond, e, want)
			}
		}
	}
}

// P6.1: the first channel's samples are counted, whatever else a sound has.
func TestMany(t *testing.T) {
	for _, x := range []struct {
		channels [][]int
		want     int
	}{{nil, 0}, {[][]int{}, 0}, {[][]int{nil}, 0}, {[][]int{{}}, 0}, {[][]int{{5}}, 1}, {[][]int{{1, 2, 3}, {1}}, 3}, {[][]int{{}, {1, 2}}, 0}, {[][]int{{1}, {1, 2, 3}}, 1}, {make([][]int, 20), 0}, {[][]int{make([]int, 70000, 80000)}, 70000}} {
		for _, s := range []api.Sound{{Channels: x.channels}, {Rate: 44100, Depth: 16, Channels: x.channels}, {Rate: -1, Depth: 99, Channels: x.channels}} {
			if got := Many(s); got != x.want {
				t.Errorf("%d channels: %d, want %d", len(x.channels), got, x.want)
			}
		}
	}
}

// P6.2: how many bytes a sample has, of all depths; those that can't be are held.
func TestEach(t *testing.T) {
	for depth := -100; depth <= 200; depth++ {
		want := 1
		switch {
		case depth > 24:
			want = 4
		case depth > 16:
			want = 3
		case depth > 8:
			want = 2
		}
		if got := Each(depth); got != want {
			t.Errorf("depth %d: %d, want %d", depth, got, want)
		}
	}
	for _, depth := range far {
		if got := Each(depth); depth < 0 && got != 1 || depth > 0 && got != 4 {
			t.Errorf("depth %d: %d", depth, got)
		}
	}
}

// P6.2: sounds by hand: of each number of bytes, with samples below 0 in depths that fill no whole byte, and several channels.
func TestBytesByHand(t *testing.T) {
	for _, x := range []struct {
		depth    int
		channels [][]int
		want     string
	}{
		{4, [][]int{{0, 7, -1, -8}}, "\x00\x07\xff\xf8"},
		{5, [][]int{{-16}, {15}}, "\xf0\x0f"},
		{8, [][]int{{-128, 127}, {-1, 1}, {2, -2}}, "\x80\xff\x02\x7f\x01\xfe"},
		{9, [][]int{{-256, 255, -1}}, "\x00\xff\xff\x00\xff\xff"},
		{12, [][]int{{-2048, 2047}}, "\x00\xf8\xff\x07"},
		{16, [][]int{{0x1234}, {-0x1234}}, "\x34\x12\xcc\xed"},
		{17, [][]int{{-65536, 65535}}, "\x00\x00\xff\xff\xff\x00"},
		{20, [][]int{{-2}, {-524288}, {524287}}, "\xfe\xff\xff\x00\x00\xf8\xff\xff\x07"},
		{24, [][]int{{0x123456, -8388608}}, "\x56\x34\x12\x00\x00\x80"},
		{25, [][]int{{-16777216, 16777215}}, "\x00\x00\x00\xff\xff\xff\xff\x00"},
		{32, [][]int{{0x12345678, -1}, {-2147483648, 2147483647}}, "\x78\x56\x34\x12\x00\x00\x00\x80\xff\xff\xff\xff\xff\xff\xff\x7f"},
		{16, [][]int{{}, {}}, ""},
		{16, make([][]int, 8), ""},
	} {
		s := api.Sound{Rate: 8000, Depth: x.depth, Channels: x.channels}
		if got := Bytes(s); string(got) != x.want {
			t.Errorf("depth %d, %v: % x, want % x", x.depth, x.channels, got, x.want)
		}
		if got, e := Unbytes([]byte(x.want), 8000, x.depth, len(x.channels)); e != api.OK || !same(got, s) {
			t.Errorf("depth %d, % x: %v, %v", x.depth, x.want, got, e)
		}
	}
}

// P6.2, P6.4: all kinds of sounds, against the chapter's own words; and out of bytes again. The rate is in no byte.
func TestBytes(t *testing.T) {
	for _, s := range some() {
		for _, rate := range []int{1, 44100, 1<<20 - 1} {
			s.Rate = rate
			b := Bytes(s)
			if !bytes.Equal(b, modelBytes(s)) {
				t.Fatalf("depth %d, %d channels, %d samples: % x", s.Depth, len(s.Channels), Many(s), b)
			}
			if got, e := Unbytes(b, rate, s.Depth, len(s.Channels)); e != api.OK || !same(got, s) {
				t.Fatalf("depth %d, %d channels, %d samples: %v, %v", s.Depth, len(s.Channels), Many(s), got, e)
			}
		}
	}
}

// R1: of a sound that can't be nothing is promised, but that the call ends.
func TestBytesWrong(t *testing.T) {
	for _, channels := range [][][]int{nil, {}, {{1}, nil}, {nil, {1}}, {{1, 2}, {1}, {1, 2, 3}}, {{math.MinInt, math.MaxInt}}, make([][]int, 9), {{}, {1}, {}}} {
		for _, depth := range append([]int{-1, 0, 3, 8, 33, 64}, far...) {
			for _, rate := range []int{0, 1, 1 << 20} {
				Bytes(api.Sound{Rate: rate, Depth: depth, Channels: channels})
			}
		}
	}
}

// P6.2, P6.4: any one or two bytes are a sample, or aren't in the depth; a sample, put in, is the same bytes.
func TestUnbytesAll(t *testing.T) {
	for depth := api.MinDepth; depth <= 16; depth++ {
		wide := 8
		if depth > 8 {
			wide = 16
		}
		for bits := range 1 << wide {
			b := []byte{byte(bits), byte(bits >> 8)}[:wide/8]
			n := bits
			if n >= 1<<(wide-1) {
				n -= 1 << wide
			}
			want := api.OK
			if n < least(depth) || n > greatest(depth) {
				want = api.ErrRange
			}
			s, e := Unbytes(b, 1, depth, 1)
			if e != want {
				t.Fatalf("depth %d, % x: %v, want %v", depth, b, e, want)
			}
			if e != api.OK && !same(s, api.Sound{}) {
				t.Fatalf("depth %d, % x: %v beside %v", depth, b, s, e)
			}
			if e == api.OK && (!same(s, api.Sound{Rate: 1, Depth: depth, Channels: [][]int{{n}}}) || !bytes.Equal(Bytes(s), b)) {
				t.Fatalf("depth %d, % x: %v", depth, b, s)
			}
		}
	}
}

// P6.2: bytes that tell a sample that isn't in the depth, one more or less than its edges, wherever these stand.
func TestUnbytesRange(t *testing.T) {
	for depth := api.MinDepth; depth <= api.MaxDepth; depth++ {
		each := Each(depth)
		clean := Bytes(unruly(depth, 3, 5))
		for at := 0; at < len(clean); at += each {
			for _, x := range []struct {
				n    int
				want api.Errno
			}{{least(depth), api.OK}, {greatest(depth), api.OK}, {least(depth) - 1, api.ErrRange}, {greatest(depth) + 1, api.ErrRange}} {
				if depth%8 == 0 {
					// All bytes tell a sample then: beyond an edge is the other one.
					x.want = api.OK
				}
				b := bytes.Clone(clean)
				for i := range each {
					b[at+i] = byte(x.n >> (8 * i))
				}
				s, e := Unbytes(b, 1, depth, 3)
				if e != x.want || e != api.OK && !same(s, api.Sound{}) {
					t.Fatalf("depth %d, %d at byte %d: %v, %v", depth, x.n, at, s, e)
				}
			}
		}
	}
}

// P6.2: as many bytes as all channels have of one sample, or a multiple; no bytes are one, too.
func TestUnbytesTail(t *testing.T) {
	for depth := api.MinDepth; depth <= api.MaxDepth; depth++ {
		for channels := 1; channels <= api.MaxChannels; channels++ {
			unit := Each(depth) * channels
			for many := range 3*unit + 2 {
				s, e := Unbytes(make([]byte, many), 7, depth, channels)
				if many%unit != 0 {
					if e != api.ErrTail || !same(s, api.Sound{}) {
						t.Errorf("depth %d, %d channels, %d bytes: %v, %v", depth, channels, many, s, e)
					}
					continue
				}
				want := api.Sound{Rate: 7, Depth: depth}
				for range channels {
					want.Channels = append(want.Channels, make([]int, many/unit))
				}
				if e != api.OK || !same(s, want) {
					t.Errorf("depth %d, %d channels, %d bytes: %v, %v", depth, channels, many, s, e)
				}
			}
		}
	}
}

// P6.2, R4: no bytes, nil or empty, are a sound of that many channels without samples.
func TestUnbytesNone(t *testing.T) {
	for _, none := range [][]byte{nil, {}, []byte("ab")[:0]} {
		for channels := 1; channels <= 8; channels++ {
			s, e := Unbytes(none, 44100, 16, channels)
			if e != api.OK || len(s.Channels) != channels || Many(s) != 0 || Check(s) != api.OK || s.Rate != 44100 || s.Depth != 16 {
				t.Errorf("%d channels: %v, %v", channels, s, e)
			}
		}
	}
}

// P6.2: each bound, one beyond it, and far beyond: with bytes and without.
func TestUnbytesBounds(t *testing.T) {
	for _, b := range [][]byte{nil, {0}, {0, 0}, make([]byte, 840)} {
		for _, channels := range append([]int{-8, -1, 0, 9, 10, 256}, far...) {
			if s, e := Unbytes(b, 1, 8, channels); e != api.ErrChannels || !same(s, api.Sound{}) {
				t.Errorf("%d channels: %v, %v", channels, s, e)
			}
		}
		for _, depth := range append([]int{-8, -1, 0, 1, 3, 33, 40, 62, 64}, far...) {
			if s, e := Unbytes(b, 1, depth, 1); e != api.ErrDepth || !same(s, api.Sound{}) {
				t.Errorf("depth %d: %v, %v", depth, s, e)
			}
		}
		for _, rate := range append([]int{-1, 0, 1 << 20, 1<<20 + 1}, far...) {
			if s, e := Unbytes(b, rate, 8, 1); e != api.ErrRate || !same(s, api.Sound{}) {
				t.Errorf("rate %d: %v, %v", rate, s, e)
			}
		}
	}
	for _, x := range []struct{ rate, depth, channels int }{{1, 4, 1}, {1<<20 - 1, 32, 8}, {1, 32, 1}, {1<<20 - 1, 4, 8}} {
		if s, e := Unbytes(make([]byte, 32), x.rate, x.depth, x.channels); e != api.OK || s.Rate != x.rate || s.Depth != x.depth || len(s.Channels) != x.channels {
			t.Errorf("%v: %v, %v", x, s, e)
		}
	}
}

// P6.2, R2: of any faults that are there together the first one is told.
func TestUnbytesFirst(t *testing.T) {
	order := []api.Errno{api.ErrChannels, api.ErrDepth, api.ErrRate, api.ErrTail, api.ErrRange}
	for set := range 1 << len(order) {
		for _, beyond := range []bool{false, true} {
			b, rate, depth, channels := make([]byte, 12), 44100, 12, 3
			if set&16 != 0 {
				b[1] = 0x40
			}
			if set&8 != 0 {
				b = append(b, 0)
			}
			if set&4 != 0 {
				rate = map[bool]int{false: 0, true: 1 << 20}[beyond]
			}
			if set&2 != 0 {
				depth = map[bool]int{false: 3, true: 33}[beyond]
			}
			if set&1 != 0 {
				channels = map[bool]int{false: 0, true: 9}[beyond]
			}
			want := api.OK
			for i, e := range order {
				if set&(1<<i) != 0 {
					want = e
					break
				}
			}
			s, e := Unbytes(b, rate, depth, channels)
			if e != want || e != api.OK && !same(s, api.Sound{}) {
				t.Errorf("faults %05b, beyond %v: %v, %v, want %v", set, beyond, s, e, want)
			}
		}
	}
}

// modelPart is what Part must be: each sample is taken or isn't.
func modelPart(s api.Sound, from, many int) api.Sound {
	part := api.Sound{Rate: s.Rate, Depth: s.Depth}
	if from < 0 {
		from = 0
	}
	for _, samples := range s.Channels {
		var taken []int
		for i, n := range samples {
			if i >= from && len(taken) < many {
				taken = append(taken, n)
			}
		}
		part.Channels = append(part.Channels, taken)
	}
	return part
}

// P6.3: parts from below 0, from within, from the end and from beyond it; of none, of some, of all and of more; of sounds that can't be, too.
func TestPart(t *testing.T) {
	numbers := append([]int{-100, -5, -1, 0, 1, 2, 3, 4, 5, 6, 7, 100, math.MaxInt - 3, math.MinInt + 3}, far...)
	for _, s := range []api.Sound{
		unruly(16, 1, 5), unruly(12, 2, 5), unruly(32, 8, 4), unruly(4, 3, 0), unruly(8, 1, 1),
		{}, {Rate: 1, Depth: 4}, {Rate: -1, Depth: 99, Channels: [][]int{}}, {Channels: make([][]int, 9)},
		{Rate: 7, Depth: 5, Channels: [][]int{{1, 2, 3}, {}, nil, {1 << 40}, {6, 5, 4, 3, 2, 1}}},
	} {
		for _, from := range numbers {
			for _, many := range numbers {
				if got, want := Part(s, from, many), modelPart(s, from, many); !same(got, want) {
					t.Fatalf("%v from %d, %d: %v, want %v", s, from, many, got, want)
				}
			}
		}
	}
}

// P6.3: by hand: from below 0 is 0, and takes nothing from how many there are.
func TestPartByHand(t *testing.T) {
	s := api.Sound{Rate: 8000, Depth: 12, Channels: [][]int{{1, 2, 3}, {4, 5, 6}}}
	for _, x := range []struct {
		from, many int
		want       [][]int
	}{
		{0, 3, [][]int{{1, 2, 3}, {4, 5, 6}}}, {0, 1, [][]int{{1}, {4}}}, {1, 1, [][]int{{2}, {5}}}, {1, 9, [][]int{{2, 3}, {5, 6}}},
		{-2, 2, [][]int{{1, 2}, {4, 5}}}, {-2, 1, [][]int{{1}, {4}}}, {math.MinInt, math.MaxInt, [][]int{{1, 2, 3}, {4, 5, 6}}},
		{2, math.MaxInt, [][]int{{3}, {6}}}, {3, 1, [][]int{{}, {}}}, {4, 1, [][]int{{}, {}}}, {math.MaxInt, math.MaxInt, [][]int{{}, {}}},
		{1, 0, [][]int{{}, {}}}, {1, -1, [][]int{{}, {}}}, {0, math.MinInt, [][]int{{}, {}}},
	} {
		if got := Part(s, x.from, x.many); !same(got, api.Sound{Rate: 8000, Depth: 12, Channels: x.want}) {
			t.Errorf("from %d, %d: %v, want %v", x.from, x.many, got, x.want)
		}
	}
}

// P6.3: one behind the other, channel by channel, whatever the sounds are otherwise.
func TestJoin(t *testing.T) {
	for _, x := range []struct{ a, b, want [][]int }{
		{[][]int{{1, 2}, {3, 4}}, [][]int{{5}, {6}}, [][]int{{1, 2, 5}, {3, 4, 6}}},
		{[][]int{{5}, {6}}, [][]int{{1, 2}, {3, 4}}, [][]int{{5, 1, 2}, {6, 3, 4}}},
		{[][]int{{}, {}}, [][]int{{1}, {2}}, [][]int{{1}, {2}}},
		{[][]int{{1}, {2}}, [][]int{nil, nil}, [][]int{{1}, {2}}},
		{[][]int{nil}, [][]int{{}}, [][]int{{}}},
		{nil, [][]int{}, nil},
		{[][]int{{1}, {}, {1 << 40}}, [][]int{{2, 3}, {4}, {}}, [][]int{{1, 2, 3}, {4}, {1 << 40}}},
	} {
		for _, kind := range []api.Sound{{Rate: 44100, Depth: 16}, {Rate: 1, Depth: 4}, {Rate: -1, Depth: 99}, {}} {
			a, b, want := kind, kind, kind
			a.Channels, b.Channels, want.Channels = x.a, x.b, x.want
			if got, e := Join(a, b); e != api.OK || !same(got, want) {
				t.Errorf("%v and %v: %v, %v", a, b, got, e)
			}
		}
	}
}

// P6.3, R2: sounds that are unlike in channels, depth and rate, in any of these: the first one is told, whichever sound stands first.
func TestJoinUnlike(t *testing.T) {
	for set := 1; set < 8; set++ {
		for _, many := range []int{0, 3} {
			a, b := unruly(16, 2, many), unruly(16, 2, many)
			want := api.ErrRate
			if set&4 != 0 {
				b.Rate++
			}
			if set&2 != 0 {
				b.Depth, want = 17, api.ErrDepth
			}
			if set&1 != 0 {
				b.Channels, want = b.Channels[:1], api.ErrChannels
			}
			if s, e := Join(a, b); e != want || !same(s, api.Sound{}) {
				t.Errorf("unlike %03b: %v, %v, want %v", set, s, e, want)
			}
			if s, e := Join(b, a); e != want || !same(s, api.Sound{}) {
				t.Errorf("unlike %03b, turned round: %v, %v, want %v", set, s, e, want)
			}
		}
	}
	none := api.Sound{Rate: 1, Depth: 4}
	if s, e := Join(none, api.Sound{Rate: 1, Depth: 4, Channels: make([][]int, 1)}); e != api.ErrChannels || !same(s, api.Sound{}) {
		t.Errorf("no channel and one: %v, %v", s, e)
	}
}

// P6.4: a sound in two parts, joined again, is the whole, wherever it is cut; so are their bytes.
func TestPartsJoined(t *testing.T) {
	for _, s := range some() {
		if Many(s) > 100 {
			continue
		}
		b := Bytes(s)
		for cut := -1; cut <= Many(s)+1; cut++ {
			head, tail := Part(s, 0, cut), Part(s, cut, Many(s))
			got, e := Join(head, tail)
			if e != api.OK || !same(got, s) {
				t.Fatalf("cut at %d of %d: %v, %v", cut, Many(s), got, e)
			}
			if Check(head) != api.OK || Check(tail) != api.OK || !bytes.Equal(append(Bytes(head), Bytes(tail)...), b) {
				t.Fatalf("cut at %d of %d: other bytes", cut, Many(s))
			}
		}
	}
}

// P6.4: many parts of one length, the last one of what is left.
func TestManyParts(t *testing.T) {
	s := unruly(24, 3, 50)
	for _, each := range []int{1, 2, 7, 25, 49, 50, 51} {
		whole := Part(s, 0, 0)
		for from := 0; from < 50; from += each {
			var e api.Errno
			if whole, e = Join(whole, Part(s, from, each)); e != api.OK {
				t.Fatal(e)
			}
		}
		if !same(whole, s) {
			t.Errorf("by %d: %v", each, whole)
		}
	}
}

// P6.4: what comes out of bytes, put in, is the same bytes.
func TestThereAndBack(t *testing.T) {
	for depth := api.MinDepth; depth <= api.MaxDepth; depth++ {
		for channels := 1; channels <= api.MaxChannels; channels++ {
			b := modelBytes(unruly(depth, channels, 30))
			s, e := Unbytes(b, 96000, depth, channels)
			if e != api.OK || Check(s) != api.OK || Many(s) != 30 || !bytes.Equal(Bytes(s), b) {
				t.Errorf("depth %d, %d channels: %v", depth, channels, e)
			}
		}
	}
}

// roomy is a sound all of whose channels lie in one array, with room behind each, and that array.
func roomy() (api.Sound, []int) {
	room := make([]int, 40)
	for i := range room {
		room[i] = i - 20
	}
	return api.Sound{Rate: 8000, Depth: 12, Channels: [][]int{room[0:6], room[10:16], room[20:26], room[5:11]}}, room
}

// R5: what is handed in is changed by no call, nor is what lies behind it in memory.
func TestNotChanged(t *testing.T) {
	s, room := roomy()
	kept, keptRoom := clone(s), slices.Clone(room)
	b := Bytes(s)
	keptBytes := bytes.Clone(b)
	Check(s)
	Many(s)
	for from := -1; from <= 7; from++ {
		for many := -1; many <= 7; many++ {
			Part(s, from, many)
		}
	}
	Join(s, s)
	Join(Part(s, 0, 2), s)
	Unbytes(b, 8000, 12, 4)
	Unbytes(b, 8000, 12, 3)
	Unbytes(b, 8000, 9, 4)
	if !same(s, kept) || !slices.Equal(room, keptRoom) || !bytes.Equal(b, keptBytes) {
		t.Errorf("changed: %v, %v, % x", s, room, b)
	}
}

// spoil changes all of a sound, and what stands behind its lists.
func spoil(s *api.Sound) {
	for c := range s.Channels {
		for i := range s.Channels[c] {
			s.Channels[c][i] = 1 << 50
		}
		s.Channels[c] = append(s.Channels[c], 1<<50)
	}
	s.Channels = append(s.Channels, nil)
	s.Rate, s.Depth = -1, -1
}

// R5: an answer is its owner's: who changes it changes nothing that was handed in, and nobody changes it by that.
func TestOwn(t *testing.T) {
	for _, x := range []struct {
		name string
		make func(s api.Sound) api.Sound
	}{
		{"all of it", func(s api.Sound) api.Sound { return Part(s, 0, 6) }},
		{"its first part", func(s api.Sound) api.Sound { return Part(s, 0, 3) }},
		{"its last part", func(s api.Sound) api.Sound { return Part(s, 3, 9) }},
		{"nothing of it", func(s api.Sound) api.Sound { return Part(s, 2, 0) }},
		{"it and itself", func(s api.Sound) api.Sound { j, _ := Join(s, s); return j }},
		{"it and nothing", func(s api.Sound) api.Sound { j, _ := Join(s, Part(s, 0, 0)); return j }},
		{"nothing and it", func(s api.Sound) api.Sound { j, _ := Join(Part(s, 0, 0), s); return j }},
	} {
		s, room := roomy()
		kept, keptRoom := clone(s), slices.Clone(room)
		got := x.make(s)
		want := clone(got)
		spoil(&got)
		if !same(s, kept) || !slices.Equal(room, keptRoom) {
			t.Errorf("%s, changed: %v", x.name, s)
		}
		got = x.make(s)
		spoil(&s)
		if !same(got, want) {
			t.Errorf("%s, of what was changed afterwards: %v", x.name, got)
		}
	}
}

// R5: bytes are their owner's, too; so is each channel that came out of them.
func TestOwnBytes(t *testing.T) {
	s, room := roomy()
	kept := clone(s)
	b := Bytes(s)
	want := bytes.Clone(b)
	clear(room)
	if !bytes.Equal(b, want) {
		t.Errorf("% x", b)
	}
	got, _ := Unbytes(b, 8000, 12, 4)
	other, _ := Unbytes(b, 8000, 12, 4)
	clear(b)
	if !same(got, kept) {
		t.Errorf("%v", got)
	}
	spoil(&got)
	if !same(other, kept) || slices.ContainsFunc(b, func(c byte) bool { return c != 0 }) {
		t.Errorf("%v", other)
	}
	for c := range other.Channels {
		rest := clone(other)
		other.Channels[c] = append(other.Channels[c], 99)
		other.Channels[c][0] = 99
		for d := range other.Channels {
			if d != c && !slices.Equal(other.Channels[d], rest.Channels[d]) {
				t.Errorf("channel %d is changed by %d", d, c)
			}
		}
	}
}

// P6.2: the iterator goes sample by sample, of each channel in order, and is left when it is told to.
func TestPlaces(t *testing.T) {
	var all [][2]int
	for c, i := range places(3, 2) {
		all = append(all, [2]int{c, i})
	}
	want := [][2]int{{0, 0}, {1, 0}, {2, 0}, {0, 1}, {1, 1}, {2, 1}}
	if !slices.Equal(all, want) {
		t.Errorf("%v", all)
	}
	for most := 1; most <= len(want); most++ {
		count := 0
		for c, i := range places(3, 2) {
			if want[count] != [2]int{c, i} {
				t.Errorf("%d, %d as number %d", c, i, count)
			}
			count++
			if count == most {
				break
			}
		}
		if count != most {
			t.Errorf("%d of %d", count, most)
		}
	}
	for _, x := range [][2]int{{0, 5}, {5, 0}, {0, 0}} {
		for c, i := range places(x[0], x[1]) {
			t.Errorf("%v has %d, %d", x, c, i)
		}
	}
}

// P6.2, P6.3, P6.4: any bytes, of any kind of sound: an error, or a sound that has these bytes, in any two parts.
func FuzzUnbytes(f *testing.F) {
	f.Add([]byte{1, 0, 2, 0, 0xff, 0xff, 3, 0}, 8000, 12, 2, 1)
	f.Add([]byte(nil), 44100, 16, 8, 0)
	f.Add([]byte{0xf7}, 1, 4, 1, -1)
	f.Add([]byte("abc"), 0, 33, 9, 5)
	f.Fuzz(func(t *testing.T, b []byte, rate, depth, channels, cut int) {
		s, e := Unbytes(b, rate, depth, channels)
		if e != api.OK {
			if !same(s, api.Sound{}) {
				t.Fatalf("%v beside %v", s, e)
			}
			return
		}
		if Check(s) != api.OK || s.Rate != rate || s.Depth != depth || len(s.Channels) != channels || !bytes.Equal(Bytes(s), b) {
			t.Fatalf("% x: %v", b, s)
		}
		joined, e := Join(Part(s, 0, cut), Part(s, cut, Many(s)))
		if e != api.OK || !same(joined, s) {
			t.Fatalf("cut at %d: %v, %v", cut, joined, e)
		}
	})
}
