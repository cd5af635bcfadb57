package head

import (
	"bytes"
	"encoding/binary"
	"math"
	"slices"
	"testing"

	"clapboard/api"
)

// numbersOf are numbers one behind the other that look like chance, and are the same in each run.
type numbersOf uint64

func (n *numbersOf) next() uint64 {
	*n = *n*6364136223846793005 + 1442695040888963407
	return uint64(*n >> 11)
}

// below is a number from 0 to m - 1.
func (n *numbersOf) below(m int) int { return int(n.next() % uint64(m)) }

// bytes are so many bytes.
func (n *numbersOf) bytes(many int) []byte {
	b := make([]byte, many)
	for i := range b {
		b[i] = byte(n.next())
	}
	return b
}

// far are numbers that no header has anywhere, both ends of an int among them, and some that look like others when their highest bits are dropped.
var far = []int{
	math.MinInt, math.MinInt + 1, math.MinInt + 8, math.MinInt64/2 - 1, math.MinInt64 / 2, -1<<32 - 8, -1 << 32, -1<<32 + 1, -1<<32 + 8, math.MinInt32 - 1, math.MinInt32, math.MinInt32 + 1, -1 << 30, -1<<24 - 1, -1 << 24, -256, -248, -64, -16, -8, -2, -1,
	1<<30 + 1, 1<<30 + 8, math.MaxInt32 - 1, math.MaxInt32, math.MaxInt32 + 1, math.MaxInt32 + 9, 1<<32 - 1, 1 << 32, 1<<32 + 1, 1<<32 + 8, 1<<32 + 16, 1<<40 + 8, math.MaxInt64 / 2, math.MaxInt64/2 + 1, math.MaxInt64/2 + 9, math.MaxInt - 7, math.MaxInt - 1, math.MaxInt,
}

// sides are those that a frame may have.
var sides = []int{8, 16, 24, 32, 40, 48, 56, 64}

// rates and buffers, displays and fulls are numbers that may be, the edges among them; each buffer may be beside each rate that it is not below.
var (
	rates    = []int{1, 2, 127, 128, 255, 256, 257, 300, 65535, 65536, 1<<24 - 1, 1 << 24}
	buffers  = []int{1, 2, 255, 256, 1000, 65536, 1<<24 - 1, 1 << 24, 1<<24 + 1, 1<<30 - 1, 1 << 30}
	displays = []int{0, 1, 2, 127, 128, 255, 256, 65535, 65536, 0x123456, 1<<24 - 2, 1<<24 - 1}
	fulls    = []int{0, 1, 255, 256, 700, 65536, 1<<24 - 1, 1 << 24, 0x12345678, 1<<30 - 1, 1 << 30}
)

// someSequences are sequences that may be: all sides, and all rates and buffers that go together.
func someSequences() []api.Sequence {
	var l []api.Sequence
	for i, w := range sides {
		for k, h := range sides {
			l = append(l, api.Sequence{W: w, H: h, Rate: 1 + i, Buffer: 9 + k})
		}
	}
	for _, rate := range rates {
		for _, buffer := range append([]int{rate, rate + 1}, buffers...) {
			if buffer >= rate {
				l = append(l, api.Sequence{W: 16, H: 40, Rate: rate, Buffer: buffer})
			}
		}
	}
	return l
}

// someHeads are heads that may be: all kinds and qualities, and all of some displays and fulls.
func someHeads() []api.Head {
	var l []api.Head
	for kind := range 3 {
		for quality := range 21 {
			l = append(l, api.Head{Kind: kind, Quality: quality, Display: 5 * quality, Full: 7 * quality})
		}
	}
	for _, display := range displays {
		for _, full := range fulls {
			l = append(l, api.Head{Kind: api.PictureB, Quality: 20, Display: display, Full: full})
		}
	}
	return l
}

// sequenceMayBe is the chapter's CheckSequence.
func sequenceMayBe(s api.Sequence) bool {
	if !slices.Contains(sides, s.W) || !slices.Contains(sides, s.H) {
		return false
	}
	return 0 < s.Rate && s.Rate <= 16777216 && s.Rate <= s.Buffer && s.Buffer <= 1073741824
}

// headMayBe is the chapter's Check.
func headMayBe(h api.Head) bool {
	if h.Kind != 0 && h.Kind != 1 && h.Kind != 2 || h.Quality < 0 || h.Quality > 20 {
		return false
	}
	return 0 <= h.Display && h.Display < 16777216 && 0 <= h.Full && h.Full <= 1073741824
}

// ten are the bytes of four numbers, made by the library.
func ten(one, two byte, three, four uint32) []byte {
	return binary.BigEndian.AppendUint32(binary.BigEndian.AppendUint32([]byte{one, two}, three), four)
}

// tenOf are a sequence's ten bytes; tenOfHead are a head's.
func tenOf(s api.Sequence) []byte {
	return ten(byte(s.W), byte(s.H), uint32(s.Rate), uint32(s.Buffer))
}
func tenOfHead(h api.Head) []byte {
	return ten(byte(h.Kind), byte(h.Quality), uint32(h.Display), uint32(h.Full))
}

// roomy are b's bytes with spare room, which is full of a byte that a write would be seen in.
func roomy(b []byte) []byte {
	r := bytes.Repeat([]byte{0xAA}, len(b)+16)
	copy(r, b)
	return r[:len(b)]
}

// untouched tells whether r is as roomy(b) made it, spare room and all.
func untouched(r, b []byte) bool {
	return bytes.Equal(r[:cap(r)], roomy(b)[:len(b)+16])
}

// soil writes over all of b, spare room too, and behind it.
func soil(b []byte) {
	for i := range b[:cap(b)] {
		b[:cap(b)][i] = 0x55
	}
	_ = append(b, 0x55, 0x55)
}

// checkSequence holds CheckSequence and Open to what the chapter says of a sequence.
func checkSequence(t *testing.T, s api.Sequence, may bool) {
	t.Helper()
	want := api.ErrHead
	if may {
		want = api.OK
	}
	if may != sequenceMayBe(s) {
		t.Errorf("%v: the test itself is wrong", s)
	}
	if e := CheckSequence(s); e != want {
		t.Errorf("CheckSequence(%v): %d", s, e)
	}
	b, e := Open(s)
	if e != want || may && !bytes.Equal(b, tenOf(s)) || !may && len(b) != 0 {
		t.Errorf("Open(%v): %v, %d", s, b, e)
	}
}

// checkHead holds Check and Write to what the chapter says of a head.
func checkHead(t *testing.T, h api.Head, may bool) {
	t.Helper()
	want := api.ErrHead
	if may {
		want = api.OK
	}
	if may != headMayBe(h) {
		t.Errorf("%v: the test itself is wrong", h)
	}
	if e := Check(h); e != want {
		t.Errorf("Check(%v): %d", h, e)
	}
	for _, payload := range [][]byte{nil, {}, {9}, {0, 0, 1}} {
		b, e := Write(h, payload)
		if e != want || may && !bytes.Equal(b, append(tenOfHead(h), payload...)) || !may && len(b) != 0 {
			t.Errorf("Write(%v, %v): %v, %d", h, payload, b, e)
		}
	}
}

// P11.1, P11.2: each side from below 0 to far behind the greatest, as W and as H; both wrong, too.
func TestSides(t *testing.T) {
	all := append([]int{}, far...)
	for n := -300; n <= 600; n++ {
		all = append(all, n)
	}
	for _, n := range all {
		may := slices.Contains(sides, n)
		for _, other := range []int{8, 40, 64} {
			checkSequence(t, api.Sequence{W: n, H: other, Rate: 300, Buffer: 1000}, may)
			checkSequence(t, api.Sequence{W: other, H: n, Rate: 300, Buffer: 1000}, may)
		}
		checkSequence(t, api.Sequence{W: n, H: n, Rate: 300, Buffer: 1000}, may)
		checkSequence(t, api.Sequence{W: n, H: 9, Rate: 300, Buffer: 1000}, false)
		checkSequence(t, api.Sequence{W: 65, H: n, Rate: 300, Buffer: 1000}, false)
	}
}

// P11.1, P11.2: the edges of Rate, with the greatest Buffer and with one that it is.
func TestRates(t *testing.T) {
	for _, rate := range rates {
		checkSequence(t, api.Sequence{W: 8, H: 64, Rate: rate, Buffer: 1 << 30}, true)
		checkSequence(t, api.Sequence{W: 8, H: 64, Rate: rate, Buffer: rate}, true)
	}
	for _, rate := range append([]int{0, 1<<24 + 1, 1<<24 + 2, 1 << 25, 1<<30 - 1, 1 << 30}, far...) {
		checkSequence(t, api.Sequence{W: 8, H: 64, Rate: rate, Buffer: 1 << 30}, false)
		checkSequence(t, api.Sequence{W: 8, H: 64, Rate: rate, Buffer: rate}, false)
		checkSequence(t, api.Sequence{W: 8, H: 64, Rate: rate, Buffer: 1000}, false)
	}
}

// P11.1, P11.2: the edges of Buffer, beside each Rate: one less, itself, one more, the greatest, and beyond.
func TestBuffers(t *testing.T) {
	for _, rate := range rates {
		for _, buffer := range []int{rate, rate + 1, 1<<30 - 1, 1 << 30} {
			checkSequence(t, api.Sequence{W: 64, H: 8, Rate: rate, Buffer: buffer}, true)
		}
		for _, buffer := range append([]int{rate - 1, 0, -rate, 1<<30 + rate, 1<<32 + rate, math.MinInt + rate, math.MaxInt - rate}, far...) {
			checkSequence(t, api.Sequence{W: 64, H: 8, Rate: rate, Buffer: buffer}, false)
		}
	}
}

// P11.1: a sequence of nothing, and ones of the least and the greatest int everywhere.
func TestSequencesOfEnds(t *testing.T) {
	ends := []int{math.MinInt, 0, 8, math.MaxInt}
	for _, w := range ends {
		for _, h := range ends {
			for _, rate := range ends {
				for _, buffer := range ends {
					s := api.Sequence{W: w, H: h, Rate: rate, Buffer: buffer}
					checkSequence(t, s, s == api.Sequence{W: 8, H: 8, Rate: 8, Buffer: 8})
				}
			}
		}
	}
}

// P11.1, P11.3: the edges of Kind, beside each that is wrong or right elsewhere.
func TestKinds(t *testing.T) {
	for kind := range 3 {
		checkHead(t, api.Head{Kind: kind}, true)
		checkHead(t, api.Head{Kind: kind, Quality: 20, Display: 1<<24 - 1, Full: 1 << 30}, true)
		checkHead(t, api.Head{Kind: kind, Quality: 21}, false)
	}
	for _, kind := range append([]int{3, 4, 5, 128, 254, 255, 256, 257, 258, 1 << 16}, far...) {
		checkHead(t, api.Head{Kind: kind}, false)
		checkHead(t, api.Head{Kind: kind, Quality: 20, Display: 1<<24 - 1, Full: 1 << 30}, false)
	}
}

// P11.1, P11.3: each Quality from 0 to 20, and those that are none.
func TestQualities(t *testing.T) {
	for quality := range 21 {
		checkHead(t, api.Head{Kind: api.PictureP, Quality: quality, Display: 3, Full: 4}, true)
	}
	for _, quality := range append([]int{21, 22, 128, 255, 256, 257, 276, 1 << 16}, far...) {
		checkHead(t, api.Head{Kind: api.PictureP, Quality: quality, Display: 3, Full: 4}, false)
	}
}

// P11.1, P11.3: the edges of Display.
func TestDisplays(t *testing.T) {
	for _, display := range displays {
		checkHead(t, api.Head{Kind: api.PictureB, Quality: 1, Display: display, Full: 4}, true)
	}
	for _, display := range append([]int{1 << 24, 1<<24 + 1, 1 << 25, 1<<30 - 1, 1 << 30}, far...) {
		checkHead(t, api.Head{Kind: api.PictureB, Quality: 1, Display: display, Full: 4}, false)
	}
}

// P11.1, P11.3: the edges of Full.
func TestFulls(t *testing.T) {
	for _, full := range fulls {
		checkHead(t, api.Head{Kind: api.PictureI, Quality: 1, Display: 3, Full: full}, true)
	}
	for _, full := range far {
		checkHead(t, api.Head{Kind: api.PictureI, Quality: 1, Display: 3, Full: full}, false)
	}
}

// P11.1: heads of the least and the greatest int everywhere.
func TestHeadsOfEnds(t *testing.T) {
	ends := []int{math.MinInt, -1, 0, math.MaxInt}
	for _, kind := range ends {
		for _, quality := range ends {
			for _, display := range ends {
				for _, full := range ends {
					h := api.Head{Kind: kind, Quality: quality, Display: display, Full: full}
					checkHead(t, h, h == api.Head{})
				}
			}
		}
	}
}
