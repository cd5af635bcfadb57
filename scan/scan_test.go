package scan

import (
	"math"
	"strconv"
	"strings"
	"testing"

	"clapboard/api"
	"clapboard/bits"
)

// most is how far from 0 a level may be.
const most = 1 << 20

// known are the places in the chapter's order: told apart from the program's own table.
var known = []int{0, 1, 4, 8, 5, 2, 3, 6, 9, 12, 13, 10, 7, 11, 14, 15}

// edges are numbers at, and beyond, both ends, with what they are clamped to.
var edges = []struct{ n, clamped int }{
	{most - 1, most - 1}, {most, most}, {most + 1, most}, {2 * most, most}, {1 << 30, most}, {1<<30 + 1, most}, {math.MaxInt32, most},
	{1 << 31, most}, {1 << 32, most}, {1<<32 + 5, most}, {1 << 40, most}, {math.MaxInt - 1, most}, {math.MaxInt, most},
	{1 - most, 1 - most}, {-most, -most}, {-most - 1, -most}, {-2 * most, -most}, {-1 << 30, -most}, {-1<<30 - 1, -most}, {math.MinInt32, -most},
	{-1<<31 - 1, -most}, {-1 << 32, -most}, {-1<<32 - 5, -most}, {-1 << 40, -most}, {math.MinInt + 1, -most}, {math.MinInt, -most},
}

// whole is a number as the chapter of bits has Whole write it, as a text of bits; one above MaxNumber too, that only a hand can write.
func whole(n int) string {
	s := strconv.FormatInt(int64(n)+1, 2)
	return strings.Repeat("0", len(s)-1) + s
}

// signed is a number as Signed writes it; one above 2^30, or below -2^30, too.
func signed(n int) string {
	if n > 0 {
		return whole(2*n - 1)
	}
	return whole(-2 * n)
}

// model are the bits of a block, by the chapter's words.
func model(b api.Block) string {
	many, s, before := 0, "", -1
	for i, at := range known {
		if b[at] == 0 {
			continue
		}
		many++
		s += whole(i-before-1) + signed(min(max(b[at], -most), most))
		before = i
	}
	return whole(many) + s
}

// shown is all that w has, bit by bit, as a text.
func shown(w *bits.Writer) string {
	var s strings.Builder
	for _, b := range w.Bytes() {
		s.WriteString(strconv.FormatUint(uint64(b)|256, 2)[1:])
	}
	return s.String()[:w.Many()]
}

// written is a block's bits, as a text.
func written(b api.Block) string {
	w := &bits.Writer{}
	Write(w, b)
	return shown(w)
}

// all is a block of one number everywhere.
func all(n int) api.Block {
	var b api.Block
	for at := range b {
		b[at] = n
	}
	return b
}

// alone is a block of one number at one place.
func alone(at, n int) api.Block {
	var b api.Block
	b[at] = n
	return b
}

// first is a block of the first so many places in order, each with its own number.
func first(many int) api.Block {
	var b api.Block
	for i := range many {
		b[known[i]] = 100 - i
	}
	return b
}

// P6.1: the order, and each place of a block once.
func TestOrder(t *testing.T) {
	seen := [16]bool{}
	for i, at := range Order() {
		if at != known[i] {
			t.Errorf("place %d: %d, want %d", i, at, known[i])
		}
		seen[at] = true
	}
	for at, is := range seen {
		if !is {
			t.Errorf("%d is missing", at)
		}
	}
}

// P6.1, R4, R5: what a caller does with the order is seen neither in another answer nor in what is written and read.
func TestOrderIsACopy(t *testing.T) {
	o := Order()
	for i := range o {
		o[i] = 7
	}
	if p := Order(); p[0] != 0 || p[15] != 15 || p[6] != 3 {
		t.Errorf("%v", p)
	}
	if s := written(alone(4, 1)); s != "010"+"011"+"010" {
		t.Errorf("%s", s)
	}
}

// P6.2: the chapter's example.
func TestExample(t *testing.T) {
	if s := written(api.Block{5, 0, 0, 0, -1}); s != "011"+"1"+"0001010"+"010"+"011" {
		t.Errorf("%s", s)
	}
}

// P6.2: blocks whose bits were worked out by hand.
func TestWriteByHand(t *testing.T) {
	for i, c := range []struct {
		b    api.Block
		want string
	}{
		{api.Block{}, "1"},
		{api.Block{0: 1}, "010" + "1" + "010"},
		{api.Block{0: -1}, "010" + "1" + "011"},
		{api.Block{15: 2}, "010" + "000010000" + "00100"},
		{api.Block{0: 1, 15: -2}, "011" + "1" + "010" + "0001111" + "00101"},
		{api.Block{1: 1, 4: -1}, "011" + "010" + "010" + "1" + "011"},
		{api.Block{2: 3, 8: 1, 3: -3}, "00100" + "00100" + "010" + "010" + "00110" + "1" + "00111"},
		{all(1), "000010001" + strings.Repeat("1"+"010", 16)},
		{all(-1), "000010001" + strings.Repeat("1"+"011", 16)},
	} {
		if s := written(c.b); s != c.want || model(c.b) != c.want {
			t.Errorf("%d: %s, want %s", i, s, c.want)
		}
	}
}

// P6.2: one number at each place, alone and as the one 0 among others.
func TestWriteEachPlace(t *testing.T) {
	for i, at := range known {
		for _, n := range []int{1, -1, 2, -2, 77, -1000, most, -most} {
			want := whole(1) + whole(i) + signed(n)
			if s := written(alone(at, n)); s != want {
				t.Errorf("%d at %d: %s, want %s", n, at, s, want)
			}
		}
		b := all(1)
		b[at] = 0
		want := whole(15) + strings.Repeat("1"+"010", i)
		if i < 15 {
			want += whole(1) + "010" + strings.Repeat("1"+"010", 14-i)
		}
		if s := written(b); s != want {
			t.Errorf("0 at %d: %s, want %s", at, s, want)
		}
	}
}

// P6.2: each two places, with what stands between them.
func TestWriteEachTwoPlaces(t *testing.T) {
	for i, a := range known {
		for j, z := range known[i+1:] {
			b := alone(a, 9)
			b[z] = -4
			if s := written(b); s != whole(2)+whole(i)+signed(9)+whole(j)+signed(-4) {
				t.Errorf("%d and %d: %s", a, z, s)
			}
		}
	}
}

// P6.2: each of the 65536 ways in which places may be 0, or not.
func TestWriteEachMask(t *testing.T) {
	for mask := range 1 << 16 {
		var b api.Block
		for at := range b {
			b[at] = (mask >> at & 1) * (at - 20)
		}
		if s := written(b); s != model(b) {
			t.Fatalf("%v: %s, want %s", b, s, model(b))
		}
	}
}

// P6.2: numbers at, and beyond, both ends are clamped, at each place; what stands beside them stays.
func TestWriteClamps(t *testing.T) {
	if api.MaxLevel != most || api.ErrScan != 60 {
		t.Fatalf("%d, %d", api.MaxLevel, api.ErrScan)
	}
	for _, c := range edges {
		for i, at := range known {
			if s := written(alone(at, c.n)); s != whole(1)+whole(i)+signed(c.clamped) {
				t.Errorf("%d at %d: %s", c.n, at, s)
			}
			b := all(1)
			b[at] = c.n
			want := whole(16) + strings.Repeat("1"+"010", i) + "1" + signed(c.clamped) + strings.Repeat("1"+"010", 15-i)
			if s := written(b); s != want {
				t.Errorf("%d among others at %d: %s", c.n, at, s)
			}
		}
	}
}

// P6.2: a block is put behind what the writer has, without a gap, and leaves it open.
func TestWriteGoesOn(t *testing.T) {
	for ahead := range 9 {
		w := &bits.Writer{}
		w.Fixed(0, ahead)
		Write(w, api.Block{1: 3})
		Write(w, api.Block{})
		w.Bit(1)
		want := strings.Repeat("0", ahead) + model(api.Block{1: 3}) + "1" + "1"
		if s := shown(w); s != want {
			t.Errorf("behind %d bits: %s, want %s", ahead, s, want)
		}
	}
}

// R1: of no writer there is nothing; no reader is ErrArg.
func TestNone(t *testing.T) {
	var w *bits.Writer
	for _, b := range []api.Block{{}, {5}, all(1), all(math.MinInt)} {
		Write(w, b)
	}
	if w.Many() != 0 || len(w.Bytes()) != 0 {
		t.Errorf("%d, %v", w.Many(), w.Bytes())
	}
	if b, e := Read(nil); b != (api.Block{}) || e != api.ErrArg {
		t.Errorf("%v, %d", b, e)
	}
}

// R4: the range over a block's levels may be left at each of them, and ranged over again; it goes through the block as it was.
func TestLevelsLeftEarly(t *testing.T) {
	b := first(16)
	l := levels(b)
	b = api.Block{}
	for stop := range 17 {
		got := 0
		for zeros, n := range l {
			if got == stop {
				break
			}
			if zeros != 0 || n != 100-got {
				t.Errorf("level %d: %d behind %d", got, n, zeros)
			}
			got++
		}
		if got != stop {
			t.Errorf("left at %d: %d levels", stop, got)
		}
	}
}

// R4, R5: the same block has the same bits again, and is not changed.
func TestNothingIsChanged(t *testing.T) {
	b := api.Block{12, 0, -12, 3, math.MaxInt, 0, 0, math.MinInt, 15: 1}
	in := b
	if written(in) != written(in) || in != b {
		t.Errorf("%v", in)
	}
}
