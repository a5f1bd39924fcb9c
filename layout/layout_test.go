// Package layout holds what the chapters list: calls and constants of all layers, and the numbers of package api. It has tests alone.
package layout

import (
	"testing"

	"serinette/api"
	"serinette/bits"
	"serinette/bound"
	"serinette/checks"
	"serinette/cost"
	"serinette/digest"
	"serinette/fixed"
	"serinette/head"
	"serinette/lags"
	"serinette/lpc"
	"serinette/meta"
	"serinette/number"
	"serinette/packet"
	"serinette/parts"
	"serinette/pcm"
	"serinette/preset"
	"serinette/quant"
	"serinette/rice"
	"serinette/search"
	"serinette/section"
	"serinette/solve"
	"serinette/stereo"
	"serinette/stream"
	"serinette/subframe"
	"serinette/window"
)

// A call with another signature doesn't compile here: nothing has to run.

// Layers 1 to 6.
var (
	_ func() *bits.Writer                                           = bits.New
	_ func(*bits.Writer, uint64, int)                               = (*bits.Writer).Put
	_ func(*bits.Writer)                                            = (*bits.Writer).Fill
	_ func(*bits.Writer) int                                        = (*bits.Writer).Len
	_ func(*bits.Writer) []byte                                     = (*bits.Writer).Bytes
	_ func([]byte) *bits.Reader                                     = bits.Open
	_ func(*bits.Reader, int) uint64                                = (*bits.Reader).Take
	_ func(*bits.Reader)                                            = (*bits.Reader).Fill
	_ func(*bits.Reader) int                                        = (*bits.Reader).Left
	_ func(*bits.Reader) int                                        = (*bits.Reader).At
	_ func(*bits.Reader) api.Errno                                  = (*bits.Reader).Fail
	_ func(*bits.Reader) api.Errno                                  = (*bits.Reader).End
	_ func(int) uint64                                              = rice.Fold
	_ func(uint64) int                                              = rice.Unfold
	_ func(int) bool                                                = rice.Near
	_ func(int, int) int                                            = rice.Size
	_ func(*bits.Writer, int, int) api.Errno                        = rice.Put
	_ func(*bits.Reader, int) int                                   = rice.Take
	_ func(int) int                                                 = number.Size
	_ func(int) ([]byte, api.Errno)                                 = number.Encode
	_ func([]byte) (int, int, api.Errno)                            = number.Decode
	_ func() *checks.Tables                                         = checks.Build
	_ func(*checks.Tables, byte, []byte) byte                       = (*checks.Tables).Eight
	_ func(*checks.Tables, uint16, []byte) uint16                   = (*checks.Tables).Sixteen
	_ func([]byte) byte                                             = checks.Eight
	_ func([]byte) uint16                                           = checks.Sixteen
	_ func() *digest.State                                          = digest.New
	_ func(*digest.State, []byte)                                   = (*digest.State).Add
	_ func(*digest.State) int                                       = (*digest.State).Len
	_ func(*digest.State) [16]byte                                  = (*digest.State).Sum
	_ func([]byte) [16]byte                                         = digest.Of
	_ func(int, int) bool                                           = pcm.In
	_ func(api.Sound) api.Errno                                     = pcm.Check
	_ func(api.Sound) int                                           = pcm.Many
	_ func(int) int                                                 = pcm.Each
	_ func(api.Sound) []byte                                        = pcm.Bytes
	_ func(b []byte, rate, depth, chans int) (api.Sound, api.Errno) = pcm.Unbytes
	_ func(s api.Sound, from, many int) api.Sound                   = pcm.Part
	_ func(a, b api.Sound) (api.Sound, api.Errno)                   = pcm.Join
)

// Layers 7 to 15.
var (
	_ func(int) []int                                                      = fixed.Factors
	_ func([]int, int) ([]int, api.Errno)                                  = fixed.Residual
	_ func(warm, rest []int) ([]int, api.Errno)                            = fixed.Restore
	_ func(shape, i, n int) (int, api.Errno)                               = window.Weight
	_ func(shape, n int) ([]int, api.Errno)                                = window.Weights
	_ func(x, weights []int) ([]int, api.Errno)                            = window.Apply
	_ func([]int) int                                                      = lags.Fit
	_ func([]int, int) []int                                               = lags.Of
	_ func([]int, int) [][]int                                             = solve.Solve
	_ func([]int, int) (api.Lpc, api.Errno)                                = quant.Quantise
	_ func(api.Lpc) api.Errno                                              = lpc.Check
	_ func([]int, api.Lpc) ([]int, api.Errno)                              = lpc.Residual
	_ func(warm, rest []int, l api.Lpc) ([]int, api.Errno)                 = lpc.Restore
	_ func([]int, int) int                                                 = cost.Bits
	_ func([]int) int                                                      = cost.Width
	_ func([]int, api.Part) int                                            = cost.Each
	_ func([]int, int) (api.Part, int, api.Errno)                          = cost.Best
	_ func(many, order, o int) []int                                       = parts.Cuts
	_ func([]int, int, api.Plan) int                                       = parts.Bits
	_ func(l []int, order, most int, wide bool) (api.Plan, int, api.Errno) = parts.Best
	_ func(*bits.Writer, []int, int, api.Plan) api.Errno                   = section.Put
	_ func(r *bits.Reader, block, order int) ([]int, api.Plan, api.Errno)  = section.Take
)

// Layers 16 to 20.
var (
	_ func([]int, api.Subframe) ([]int, api.Errno)                            = subframe.Rest
	_ func([]int, api.Subframe, int) (int, api.Errno)                         = subframe.Bits
	_ func(*bits.Writer, []int, api.Subframe, int) api.Errno                  = subframe.Put
	_ func(r *bits.Reader, block, depth int) ([]int, api.Subframe, api.Errno) = subframe.Take
	_ func(api.Head) api.Errno                                                = head.Check
	_ func(api.Head) ([]byte, api.Errno)                                      = head.Put
	_ func([]byte) (api.Head, int, api.Errno)                                 = head.Take
	_ func(int) int                                                           = head.Channels
	_ func(api.Info) (api.Meta, api.Errno)                                    = meta.Info
	_ func(api.Pad) (api.Meta, api.Errno)                                     = meta.Pad
	_ func(api.Seek) (api.Meta, api.Errno)                                    = meta.Seek
	_ func(api.Comment) (api.Meta, api.Errno)                                 = meta.Comment
	_ func(api.Meta) (api.Meta, api.Errno)                                    = meta.Other
	_ func(api.Meta) (any, api.Errno)                                         = meta.Read
	_ func([]api.Meta) ([]byte, api.Errno)                                    = meta.Pack
	_ func([]byte) ([]api.Meta, int, api.Errno)                               = meta.Unpack
	_ func(string) bool                                                       = meta.Text
	_ func(string) bool                                                       = meta.Field
	_ func(int) (api.Policy, api.Errno)                                       = preset.Preset
	_ func(api.Policy) api.Errno                                              = preset.Check
	_ func(api.Policy, int) int                                               = preset.Count
	_ func(p api.Policy, many, i int) (api.Choice, bool)                      = preset.At
	_ func(api.Policy, int, api.Choice) (int, bool)                           = preset.Index
	_ func(api.Policy, int) []api.Choice                                      = preset.All
	_ func([]int) int                                                         = search.Wasted
	_ func(y []int, shape, order, precision int) (api.Lpc, bool)              = search.Linear
	_ func([]int, int, api.Policy, api.Choice) (api.Subframe, int, bool)      = search.Make
	_ func([]int, int, api.Policy) (api.Subframe, int, api.Errno)             = search.Best
)

// Layers 21 to 24.
var (
	_ func(mode int, l, r []int) ([]int, []int, api.Errno)                              = stereo.Split
	_ func(mode int, a, b []int) ([]int, []int, api.Errno)                              = stereo.Join
	_ func(mode, channel, depth int) int                                                = stereo.Deep
	_ func([][]int, int, api.Policy) (int, []api.Subframe, int, api.Errno)              = stereo.Best
	_ func(channels [][]int, rate, depth, number int, p api.Policy) ([]byte, api.Errno) = packet.Encode
	_ func(b []byte, rate, depth, channels int) (api.Head, [][]int, int, api.Errno)     = packet.Decode
	_ func(api.Sound, api.Policy, api.Options) ([]byte, api.Errno)                      = stream.Encode
	_ func([]byte) (api.Sound, []api.Meta, api.Errno)                                   = stream.Decode
	_ func([]byte) ([]api.Point, api.Errno)                                             = stream.Index
	_ func(block, rate, number int) int                                                 = bound.Head
	_ func(block, channels, rate, depth, number int) int                                = bound.Frame
	_ func(int) int                                                                     = bound.Numbers
	_ func(total, block, channels, rate, depth int) int                                 = bound.Frames
	_ func(api.Comment, int, api.Options) int                                           = bound.Ahead
	_ func(total, block, channels, rate, depth int, o api.Options) int                  = bound.Stream
)

func TestErrors(t *testing.T) {
	all := []api.Errno{
		api.OK, api.ErrArg, api.ErrShort, api.ErrTail, api.ErrSum, api.ErrForm,
		api.ErrRange, api.ErrLong, api.ErrKind, api.ErrMagic, api.ErrDepth, api.ErrRate,
		api.ErrChannels, api.ErrUneven, api.ErrWidth, api.ErrBlock, api.ErrDigest, api.ErrPolicy,
	}
	words := map[string]int{}
	for i, e := range all {
		if int(e) != i {
			t.Errorf("error %d has the number %d", i, e)
		}
		if last, twice := words[e.Error()]; twice {
			t.Errorf("errors %d and %d have the same words", last, i)
		}
		words[e.Error()] = i
	}
}

func TestNumbers(t *testing.T) {
	for _, x := range []struct {
		name      string
		got, want int
	}{
		{"MaxChannels", api.MaxChannels, 8},
		{"MinDepth", api.MinDepth, 4},
		{"MaxDepth", api.MaxDepth, 32},
		{"MaxRate", api.MaxRate, 1048575},
		{"MaxBlock", api.MaxBlock, 65535},
		{"MaxOrder", api.MaxOrder, 32},
		{"MaxFixed", api.MaxFixed, 4},
		{"MaxTotal", api.MaxTotal, 68719476735},
		{"MaxBody", api.MaxBody, 16777215},
		{"MaxParts", api.MaxParts, 8},
		{"Constant", api.Constant, 0},
		{"Verbatim", api.Verbatim, 1},
		{"Fixed", api.Fixed, 2},
		{"Linear", api.Linear, 3},
		{"InfoKind", api.InfoKind, 0},
		{"PadKind", api.PadKind, 1},
		{"SeekKind", api.SeekKind, 3},
		{"CommentKind", api.CommentKind, 4},
		{"rice.Most", rice.Most, 30},
		{"rice.Longest", rice.Longest, 65535},
		{"digest.Size", digest.Size, 16},
		{"window.Flat", window.Flat, 0},
		{"window.Tent", window.Tent, 1},
		{"window.Hill", window.Hill, 2},
		{"window.One", window.One, 32768},
		{"lags.Widest", lags.Widest, 22},
		{"solve.Unit", solve.Unit, 1048576},
		{"solve.Top", solve.Top, 1 << 30},
		{"solve.Far", solve.Far, 1 << 26},
		{"quant.Unit", quant.Unit, 1048576},
		{"quant.Most", quant.Most, 15},
		{"cost.Raw", cost.Raw, 31},
		{"parts.Narrow", parts.Narrow, 14},
		{"parts.Wide", parts.Wide, 30},
		{"subframe.Deepest", subframe.Deepest, 33},
		{"preset.Presets", preset.Presets, 9},
	} {
		if x.got != x.want {
			t.Errorf("%s is %d, want %d", x.name, x.got, x.want)
		}
	}
}
