package block

import (
	"math"
	"testing"

	"clapboard/api"
)

// numbers are numbers one behind the other that look like chance, and are the same in each run.
type numbers uint64

func (n *numbers) next() uint64 {
	*n = *n*6364136223846793005 + 1442695040888963407
	return uint64(*n >> 11)
}

// below is a number from 0 to m - 1.
func (n *numbers) below(m int) int { return int(n.next() % uint64(m)) }

// vector is one that may be.
func (n *numbers) vector() api.Vector { return of(n.below(63)-31, n.below(63)-31) }

// levels are some that may be: mostly small ones, and at times none, or such as are at the ends.
func (n *numbers) levels() api.Block {
	var b api.Block
	for range n.below(2) * n.below(17) {
		b[n.below(16)] = n.below(41) - 20
	}
	if n.below(4) == 0 {
		b[n.below(16)] = []int{-1 << 20, 1 << 20, 1<<20 - 1, 1<<19 + 77, -4080, 4080}[n.below(6)]
	}
	return b
}

// choice is one that may be, of a mode.
func (n *numbers) choice(mode int) api.Choice {
	c := api.Choice{Mode: mode, Levels: n.levels()}
	if mode == 4 || mode == 6 {
		c.Past = n.vector()
	}
	if mode == 5 || mode == 6 {
		c.Next = n.vector()
	}
	return c
}

// of is a vector of two numbers.
func of(x, y int) api.Vector { return api.Vector{X: x, Y: y} }

// none is the vector of 0 and 0.
var none api.Vector

// far are numbers that no kind, mode, vector, level, quality, plane or place has, both ends of an int among them.
var far = []int{
	math.MinInt, math.MinInt + 1, math.MinInt + 6, math.MinInt64/2 - 1, -1<<32 - 1, -1 << 32, -1<<32 + 1, -1<<32 + 6, math.MinInt32 - 1, math.MinInt32, -1 << 21,
	1 << 21, math.MaxInt32, math.MaxInt32 + 1, 1<<32 - 1, 1 << 32, 1<<32 + 1, 1<<32 + 6, math.MaxInt64/2 + 1, math.MaxInt - 6, math.MaxInt - 1, math.MaxInt,
}

// Numbers about those that may be, and far ones: of a kind, of a mode, of a vector one way, of a level.
var (
	kinds   = append([]int{-2, -1, 0, 1, 2, 3, 4, 256, 257}, far...)
	modes   = append([]int{-2, -1, 0, 1, 2, 3, 4, 5, 6, 7, 8, 16, 256, 260}, far...)
	ways    = append([]int{-64, -33, -32, -31, -30, -1, 0, 1, 30, 31, 32, 33, 64, 256}, far...)
	heights = append([]int{-1<<20 - 2, -1<<20 - 1, -1 << 20, -1<<20 + 1, -5, -1, 0, 1, 2, 1<<20 - 1, 1 << 20, 1<<20 + 1, 1<<20 + 2}, far...)
)

// most is the last mode that a kind of picture has; -1, if it is none.
func most(kind int) int {
	switch kind {
	case 0:
		return 3
	case 1:
		return 4
	case 2:
		return 6
	}
	return -1
}

// goes tells whether a vector may have a number.
func goes(n int) bool { return n >= -31 && n <= 31 }

// plain is what Check should answer, by the chapter's words.
func plain(kind int, c api.Choice) api.Errno {
	if c.Mode < 0 || c.Mode > most(kind) {
		return api.ErrBlock
	}
	if c.Mode != 4 && c.Mode != 6 && c.Past != none || c.Mode != 5 && c.Mode != 6 && c.Next != none {
		return api.ErrBlock
	}
	for _, n := range c.Levels {
		if n < -1048576 || n > 1048576 {
			return api.ErrBlock
		}
	}
	if !goes(c.Past.X) || !goes(c.Past.Y) || !goes(c.Next.X) || !goes(c.Next.Y) {
		return api.ErrVector
	}
	return api.OK
}

// checked holds Check to the chapter's words.
func checked(t *testing.T, kind int, c api.Choice) {
	t.Helper()
	if got, want := Check(kind, c), plain(kind, c); got != want {
		t.Fatalf("kind %d, %+v: %d, not %d", kind, c, got, want)
	}
}

// P12.1: the chapter's examples, and each mode; of one that there is not, neither vector.
func TestVectors(t *testing.T) {
	for mode, want := range [][2]bool{4: {true, false}, 5: {false, true}, 6: {true, true}} {
		if past, next := Vectors(mode); past != want[0] || next != want[1] {
			t.Errorf("%d: %v %v", mode, past, next)
		}
	}
	for _, mode := range append([]int{-7, -6, -5, -4, -3, -2, -1, 7, 8, 9, 10, 11, 12, 13, 20, 256, 260, 261, 262}, far...) {
		if past, next := Vectors(mode); past || next {
			t.Errorf("%d: %v %v", mode, past, next)
		}
	}
}

// P12.1: choices by hand, the chapter's examples ahead.
func TestCheckByHand(t *testing.T) {
	v := of(7, -9)
	for i, c := range []struct {
		kind int
		c    api.Choice
		want api.Errno
	}{
		{api.PictureI, api.Choice{Mode: api.MPast}, api.ErrBlock},
		{api.PictureP, api.Choice{Mode: api.MPast}, api.OK},
		{0, api.Choice{}, api.OK},
		{0, api.Choice{Mode: 3}, api.OK},
		{1, api.Choice{Mode: 3}, api.OK},
		{2, api.Choice{Mode: 3}, api.OK},
		{1, api.Choice{Mode: 5}, api.ErrBlock},
		{1, api.Choice{Mode: 6}, api.ErrBlock},
		{2, api.Choice{Mode: 5}, api.OK},
		{2, api.Choice{Mode: 6}, api.OK},
		{2, api.Choice{Mode: 7}, api.ErrBlock},
		{2, api.Choice{Mode: -1}, api.ErrBlock},
		{3, api.Choice{}, api.ErrBlock},
		{-1, api.Choice{}, api.ErrBlock},
		{1, api.Choice{Mode: 4, Past: v}, api.OK},
		{1, api.Choice{Mode: 4, Next: v}, api.ErrBlock},
		{1, api.Choice{Mode: 4, Past: v, Next: v}, api.ErrBlock},
		{1, api.Choice{Mode: 0, Past: v}, api.ErrBlock},
		{2, api.Choice{Mode: 5, Next: v}, api.OK},
		{2, api.Choice{Mode: 5, Past: v}, api.ErrBlock},
		{2, api.Choice{Mode: 6, Past: v}, api.OK},
		{2, api.Choice{Mode: 6, Next: v}, api.OK},
		{2, api.Choice{Mode: 6, Past: v, Next: v}, api.OK},
		{2, api.Choice{Mode: 4, Past: of(31, -31)}, api.OK},
		{2, api.Choice{Mode: 4, Past: of(32, 0)}, api.ErrVector},
		{2, api.Choice{Mode: 4, Past: of(0, -32)}, api.ErrVector},
		{2, api.Choice{Mode: 6, Past: v, Next: of(0, 32)}, api.ErrVector},
		{2, api.Choice{Mode: 6, Past: of(-32, 0), Next: v}, api.ErrVector},
		{0, api.Choice{Levels: api.Block{1 << 20, -1 << 20}}, api.OK},
		{0, api.Choice{Levels: api.Block{1<<20 + 1}}, api.ErrBlock},
		{0, api.Choice{Levels: api.Block{15: -1<<20 - 1}}, api.ErrBlock},
	} {
		if e := Check(c.kind, c.c); e != c.want {
			t.Errorf("%d: %d, not %d", i, e, c.want)
		}
	}
}

// P12.1: each kind beside each mode, those that are none, and both ends of an int, among them; with no vector, and with either.
func TestCheckEachKindAndMode(t *testing.T) {
	for _, kind := range kinds {
		for _, mode := range modes {
			for _, past := range []api.Vector{none, of(1, 0), of(0, -1), of(5, 6)} {
				for _, next := range []api.Vector{none, of(-1, 0), of(0, 1), of(7, 8)} {
					checked(t, kind, api.Choice{Mode: mode, Past: past, Next: next})
				}
			}
		}
	}
	for _, kind := range kinds {
		for mode := range 7 {
			want := api.ErrBlock
			if mode <= most(kind) {
				want = api.OK
			}
			if e := Check(kind, api.Choice{Mode: mode}); e != want {
				t.Errorf("%d, %d: %d", kind, mode, e)
			}
		}
	}
}

// P12.1: each number of a vector, at the ends and beyond, both ends of an int among them, of each kind and mode: ErrVector, where the mode has it, and ErrBlock, where it has not.
func TestCheckEachVector(t *testing.T) {
	for kind := -1; kind <= 3; kind++ {
		for mode := -1; mode <= 7; mode++ {
			for _, n := range ways {
				for _, m := range []int{0, 1, -31, 31, 32, math.MinInt, math.MaxInt} {
					for _, v := range []api.Vector{of(n, m), of(m, n)} {
						checked(t, kind, api.Choice{Mode: mode, Past: v})
						checked(t, kind, api.Choice{Mode: mode, Next: v})
						checked(t, kind, api.Choice{Mode: mode, Past: v, Next: of(2, 3)})
						checked(t, kind, api.Choice{Mode: mode, Past: of(-31, 31), Next: v})
						checked(t, kind, api.Choice{Mode: mode, Past: v, Next: v})
					}
				}
			}
		}
	}
}

// P12.1: each number of a level, at the ends and beyond, both ends of an int among them, in each place, of each mode.
func TestCheckEachLevel(t *testing.T) {
	for mode := range 7 {
		for at := range 16 {
			for _, n := range heights {
				c := api.Choice{Mode: mode}
				c.Levels[at] = n
				checked(t, 2, c)
				c.Levels[15-at] = 1
				checked(t, mode%3, c)
				want := api.OK
				if n < -1<<20 || n > 1<<20 {
					want = api.ErrBlock
				}
				if at != 15-at && Check(2, c) != want {
					t.Errorf("mode %d: %d at %d: %d", mode, n, at, Check(2, c))
				}
			}
		}
	}
}

// P12.1, R2: ErrBlock stands ahead of ErrVector, whichever of its reasons there is.
func TestCheckWhichError(t *testing.T) {
	wrong := of(32, math.MinInt)
	for i, c := range []struct {
		kind int
		c    api.Choice
		want api.Errno
	}{
		{2, api.Choice{Mode: 6, Past: wrong, Next: wrong}, api.ErrVector},
		{2, api.Choice{Mode: 4, Past: wrong}, api.ErrVector},
		{2, api.Choice{Mode: 5, Next: wrong}, api.ErrVector},
		{3, api.Choice{Mode: 6, Past: wrong, Next: wrong}, api.ErrBlock},
		{-1, api.Choice{Mode: 4, Past: wrong}, api.ErrBlock},
		{0, api.Choice{Mode: 4, Past: wrong}, api.ErrBlock},
		{1, api.Choice{Mode: 6, Past: wrong, Next: wrong}, api.ErrBlock},
		{2, api.Choice{Mode: 7, Past: wrong, Next: wrong}, api.ErrBlock},
		{2, api.Choice{Mode: -1, Past: wrong}, api.ErrBlock},
		{2, api.Choice{Mode: 4, Past: wrong, Next: of(0, 1)}, api.ErrBlock},
		{2, api.Choice{Mode: 4, Past: wrong, Next: wrong}, api.ErrBlock},
		{2, api.Choice{Mode: 5, Past: of(1, 0), Next: wrong}, api.ErrBlock},
		{2, api.Choice{Mode: 0, Past: wrong}, api.ErrBlock},
		{0, api.Choice{Mode: 3, Next: wrong}, api.ErrBlock},
		{2, api.Choice{Mode: 6, Past: wrong, Levels: api.Block{15: math.MaxInt}}, api.ErrBlock},
		{2, api.Choice{Mode: 6, Next: wrong, Levels: api.Block{math.MinInt}}, api.ErrBlock},
		{1, api.Choice{Mode: 4, Past: wrong, Levels: api.Block{7: 1<<20 + 1}}, api.ErrBlock},
	} {
		if e := Check(c.kind, c.c); e != c.want || plain(c.kind, c.c) != c.want {
			t.Errorf("%d: %d, not %d", i, e, c.want)
		}
	}
}

// P12.1: choices that look like chance, right ones, and such as are wrong in one way or several.
func TestCheckMany(t *testing.T) {
	n := numbers(300)
	got := map[api.Errno]int{}
	for range 60000 {
		kind, c := n.below(3), n.choice(n.below(7))
		for range n.below(3) {
			switch n.below(6) {
			case 0:
				kind = kinds[n.below(len(kinds))]
			case 1:
				c.Mode = modes[n.below(len(modes))]
			case 2:
				c.Past.X = ways[n.below(len(ways))]
			case 3:
				c.Past.Y = ways[n.below(len(ways))]
			case 4:
				c.Next = of(ways[n.below(len(ways))], ways[n.below(len(ways))])
			case 5:
				c.Levels[n.below(16)] = heights[n.below(len(heights))]
			}
		}
		checked(t, kind, c)
		got[Check(kind, c)]++
	}
	if len(got) != 3 || min(got[api.OK], got[api.ErrBlock], got[api.ErrVector]) < 500 {
		t.Errorf("%v", got)
	}
}
