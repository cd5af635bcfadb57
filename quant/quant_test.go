package quant

import (
	"math"
	"testing"

	"clapboard/api"
)

// most is how far from 0 a number may be ahead of all.
const most = 1 << 20

// known are the steps and the bounds of all qualities: told apart from the program's own table.
var known = []struct{ step, bound int }{
	{1, 0}, {2, 1}, {3, 1}, {4, 2}, {5, 2}, {6, 3}, {8, 4}, {10, 5}, {12, 6}, {16, 8}, {20, 10},
	{24, 12}, {32, 16}, {40, 20}, {48, 24}, {64, 32}, {80, 40}, {96, 48}, {128, 64}, {160, 80}, {192, 96},
}

// wrong are qualities that are none: beside both ends, far from them, and such that would be one if they were cut to fewer bits.
var wrong = []int{
	-1, -2, -20, -21, -256, -1 << 16, -1 << 32, -1<<32 + 5, math.MinInt32, math.MinInt + 1, math.MinInt,
	21, 22, 42, 255, 256, 261, 1 << 16, math.MaxInt32, 1 << 32, 1<<32 + 5, math.MaxInt - 1, math.MaxInt,
}

// all is a block of one number everywhere.
func all(n int) api.Block {
	var b api.Block
	for at := range b {
		b[at] = n
	}
	return b
}

// alone is a block of one number at one place.
func alone(at, n int) api.Block {
	var b api.Block
	b[at] = n
	return b
}

// down is Down of a quality that is one.
func down(t *testing.T, b api.Block, q int) api.Block {
	t.Helper()
	l, e := Down(b, q)
	if e != api.OK {
		t.Fatalf("Down by %d: %d", q, e)
	}
	return l
}

// up is Up of a quality that is one.
func up(t *testing.T, b api.Block, q int) api.Block {
	t.Helper()
	l, e := Up(b, q)
	if e != api.OK {
		t.Fatalf("Up by %d: %d", q, e)
	}
	return l
}

// P5.1: Step and Bound of each quality, 0 to 20.
func TestStepAndBound(t *testing.T) {
	if api.MaxQuality != 20 || len(known) != 21 || api.ErrQuant != 50 {
		t.Fatalf("%d, %d, %d", api.MaxQuality, len(known), api.ErrQuant)
	}
	for q, want := range known {
		if n, e := Step(q); n != want.step || e != api.OK {
			t.Errorf("Step(%d): %d, %d", q, n, e)
		}
		if n, e := Bound(q); n != want.bound || e != api.OK {
			t.Errorf("Bound(%d): %d, %d", q, n, e)
		}
	}
}

// P5.1: 0 and ErrQuant of another quality.
func TestNoSuchQuality(t *testing.T) {
	for _, q := range wrong {
		if n, e := Step(q); n != 0 || e != api.ErrQuant {
			t.Errorf("Step(%d): %d, %d", q, n, e)
		}
		if n, e := Bound(q); n != 0 || e != api.ErrQuant {
			t.Errorf("Bound(%d): %d, %d", q, n, e)
		}
	}
}

// P5.2: an empty block, and ErrQuant, of another quality, whatever the block is.
func TestNoSuchQualityOfBlocks(t *testing.T) {
	for _, q := range wrong {
		for _, b := range []api.Block{{}, {5}, all(1), all(-7), all(most), all(math.MaxInt), all(math.MinInt), alone(15, 192)} {
			if l, e := Down(b, q); l != (api.Block{}) || e != api.ErrQuant {
				t.Errorf("Down by %d: %v, %d", q, l, e)
			}
			if l, e := Up(b, q); l != (api.Block{}) || e != api.ErrQuant {
				t.Errorf("Up by %d: %v, %d", q, l, e)
			}
		}
	}
}

// P5.1, P5.2: the chapter's example.
func TestExample(t *testing.T) {
	step, e := Step(6)
	bound, f := Bound(6)
	if step != 8 || bound != 4 || e != api.OK || f != api.OK {
		t.Errorf("%d, %d", step, bound)
	}
	if l := down(t, api.Block{12, 11, -12}, 6); l != (api.Block{2, 1, -2}) {
		t.Errorf("%v", l)
	}
}

// P5.2: blocks that were worked out by hand: by steps that are even, odd, and one.
func TestByHand(t *testing.T) {
	b := api.Block{0, 1, -1, 2, -2, 3, -3, 4, -4, 5, -5, 7, 8, -8, 100, -1000}
	for _, c := range []struct {
		q        int
		down, up api.Block
	}{
		{0, b, b},
		{1, api.Block{0, 1, -1, 1, -1, 2, -2, 2, -2, 3, -3, 4, 4, -4, 50, -500}, api.Block{0, 2, -2, 4, -4, 6, -6, 8, -8, 10, -10, 14, 16, -16, 200, -2000}},
		{2, api.Block{0, 0, 0, 1, -1, 1, -1, 1, -1, 2, -2, 2, 3, -3, 33, -333}, api.Block{0, 3, -3, 6, -6, 9, -9, 12, -12, 15, -15, 21, 24, -24, 300, -3000}},
		{4, api.Block{0, 0, 0, 0, 0, 1, -1, 1, -1, 1, -1, 1, 2, -2, 20, -200}, api.Block{0, 5, -5, 10, -10, 15, -15, 20, -20, 25, -25, 35, 40, -40, 500, -5000}},
		{6, api.Block{0, 0, 0, 0, 0, 0, 0, 1, -1, 1, -1, 1, 1, -1, 13, -125}, api.Block{0, 8, -8, 16, -16, 24, -24, 32, -32, 40, -40, 56, 64, -64, 800, -8000}},
		{20, api.Block{14: 1, 15: -5}, api.Block{0, 192, -192, 384, -384, 576, -576, 768, -768, 960, -960, 1344, 1536, -1536, 19200, -192000}},
	} {
		if l := down(t, b, c.q); l != c.down {
			t.Errorf("Down by %d: %v", c.q, l)
		}
		if l := up(t, b, c.q); l != c.up {
			t.Errorf("Up by %d: %v", c.q, l)
		}
	}
}

// P5.2: numbers just below, at and above a half of a step behind each of many levels, above 0 and below 0. A step that is odd has its half between two numbers; by a step of one each number is a level.
func TestHalves(t *testing.T) {
	for q, s := range known {
		for _, level := range []int{0, 1, 2, 3, 10, 99, 1000, 5459} {
			first := level*s.step + (s.step+1)/2
			last := first + s.step - 1
			for _, c := range []struct{ n, want int }{
				{level * s.step, level}, {first - 1, level},
				{first, level + 1}, {min(first+1, last), level + 1}, {(level + 1) * s.step, level + 1}, {last, level + 1},
				{last + 1, level + 2},
			} {
				if l := down(t, api.Block{c.n, -c.n}, q); l != (api.Block{c.want, -c.want}) {
					t.Errorf("Down of %d and %d by %d: %v, want %d", c.n, -c.n, q, l, c.want)
				}
			}
		}
	}
}

// P5.2: 0 stays 0, and a block of 0 a block of 0, by each quality.
func TestNothing(t *testing.T) {
	for q := range known {
		if down(t, api.Block{}, q) != (api.Block{}) || up(t, api.Block{}, q) != (api.Block{}) {
			t.Errorf("by %d", q)
		}
	}
}

// P5.2: each number stays at its place, and hangs on no other.
func TestEachPlace(t *testing.T) {
	for q, s := range known {
		for at := range 16 {
			for _, level := range []int{1, -1, 3, -17, 5000} {
				if l := down(t, alone(at, level*s.step), q); l != alone(at, level) {
					t.Errorf("Down of %d alone at %d by %d: %v", level*s.step, at, q, l)
				}
				if l := up(t, alone(at, level), q); l != alone(at, level*s.step) {
					t.Errorf("Up of %d alone at %d by %d: %v", level, at, q, l)
				}
				b, l := all(-2*s.step), all(-2)
				b[at], l[at] = level*s.step, level
				if down(t, b, q) != l || up(t, l, q) != b {
					t.Errorf("%d among others at %d by %d: %v, %v", level, at, q, down(t, b, q), up(t, l, q))
				}
			}
		}
	}
}
