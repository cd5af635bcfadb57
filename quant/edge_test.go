package quant

import (
	"math"
	"testing"

	"clapboard/api"
)

// edges are numbers at, and beyond, both ends, with what they are clamped to.
var edges = []struct{ n, clamped int }{
	{most - 1, most - 1}, {most, most}, {most + 1, most}, {most + 96, most}, {most + 200, most}, {2 * most, most}, {192 * most, most},
	{math.MaxInt32, most}, {1 << 31, most}, {1 << 32, most}, {1<<32 + 5, most}, {1 << 40, most}, {math.MaxInt - 96, most}, {math.MaxInt - 1, most}, {math.MaxInt, most},
	{1 - most, 1 - most}, {-most, -most}, {-most - 1, -most}, {-most - 96, -most}, {-most - 200, -most}, {-2 * most, -most}, {-192 * most, -most},
	{math.MinInt32, -most}, {-1<<31 - 1, -most}, {-1 << 32, -most}, {-1<<32 - 5, -most}, {-1 << 40, -most}, {math.MinInt + 96, -most}, {math.MinInt + 1, -most}, {math.MinInt, -most},
}

// slow is a number's level as the chapter says it: without its sign, and the bound, divided by the step, with the sign.
func slow(n, q int) int {
	size := math.Abs(float64(n))
	whole := math.Floor((size + float64(known[q].bound)) / float64(known[q].step))
	return int(math.Copysign(whole, float64(n)))
}

// P5.2: Down and Up clamp each number ahead of all, by each quality and at each place; what stands beside it stays.
func TestClamp(t *testing.T) {
	if api.MaxLevel != most {
		t.Fatalf("MaxLevel: %d", api.MaxLevel)
	}
	for q, s := range known {
		for _, c := range edges {
			for at := range 16 {
				b := all(s.step)
				b[at] = c.n
				low, high := all(1), all(s.step*s.step)
				low[at], high[at] = slow(c.clamped, q), c.clamped*s.step
				if l := down(t, b, q); l != low {
					t.Errorf("Down with %d at %d by %d: %v", c.n, at, q, l)
				}
				if l := up(t, b, q); l != high {
					t.Errorf("Up with %d at %d by %d: %v", c.n, at, q, l)
				}
			}
		}
	}
}

// P5.2: what is known of the ends, by steps of one, of two, odd ones, and the greatest.
func TestEndsKnown(t *testing.T) {
	for _, c := range []struct{ q, down, up int }{
		{0, 1048576, 1048576}, {1, 524288, 2097152}, {2, 349525, 3145728}, {4, 209715, 5242880},
		{5, 174763, 6291456}, {6, 131072, 8388608}, {19, 6554, 167772160}, {20, 5461, 201326592},
	} {
		for _, n := range []int{most, most + 1, 1 << 40, math.MaxInt} {
			if l := down(t, api.Block{n, -n}, c.q); l != (api.Block{c.down, -c.down}) {
				t.Errorf("Down of %d by %d: %v", n, c.q, l)
			}
			if l := up(t, api.Block{n, -n}, c.q); l != (api.Block{c.up, -c.up}) {
				t.Errorf("Up of %d by %d: %v", n, c.q, l)
			}
		}
		if l := down(t, all(math.MinInt), c.q); l != all(-c.down) {
			t.Errorf("Down of the least int by %d: %v", c.q, l)
		}
		if l := up(t, all(math.MinInt), c.q); l != all(-c.up) {
			t.Errorf("Up of the least int by %d: %v", c.q, l)
		}
	}
}

// P5.2: Up does not clamp what comes out of it: levels that are great stand for numbers far beyond MaxLevel.
func TestUpGoesBeyond(t *testing.T) {
	for q, s := range known {
		for _, level := range []int{most / 192, most/192 + 1, most / 2, most - 1, most} {
			if l := up(t, api.Block{level, -level}, q); l != (api.Block{level * s.step, -level * s.step}) {
				t.Errorf("Up of %d by %d: %v", level, q, l)
			}
		}
	}
}

// P5.2: numbers of all lengths, of either sign, against the chapter's words one by one.
func TestMany(t *testing.T) {
	seed := uint64(5)
	next := func() uint64 {
		seed = seed*6364136223846793005 + 1442695040888963407
		return seed ^ seed>>29
	}
	for round := range 21 * 3000 {
		q := round % 21
		var b, low, high api.Block
		for at := range b {
			b[at] = int(next()) >> (next() % 64)
			n := min(max(b[at], -most), most)
			low[at], high[at] = slow(n, q), n*known[q].step
		}
		if l := down(t, b, q); l != low {
			t.Fatalf("Down of %v by %d: %v, want %v", b, q, l, low)
		}
		if l := up(t, b, q); l != high {
			t.Fatalf("Up of %v by %d: %v, want %v", b, q, l, high)
		}
	}
}

// R4, R5: the block that is handed in stays as it is, and the same one has the same answer again.
func TestNothingIsChanged(t *testing.T) {
	b := api.Block{12, 11, -12, 3, 4, -4, -3, 1 << 40}
	in := b
	first, _ := Down(in, 6)
	high, _ := Up(in, 6)
	Down(in, 21)
	Up(in, -1)
	again, _ := Down(in, 6)
	same, _ := Up(in, 6)
	if in != b || first != again || high != same {
		t.Errorf("%v, %v, %v", in, again, same)
	}
}
