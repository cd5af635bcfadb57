package intra

import (
	"math"
	"testing"

	"clapboard/api"
)

// held is a number as Cost takes it.
func held(n int) int {
	switch {
	case n < -1<<20:
		return -1 << 20
	case n > 1<<20:
		return 1 << 20
	}
	return n
}

// apart is Cost, by the chapter's words.
func apart(a, b api.Block) int {
	sum := 0
	for i := range 16 {
		d := held(a[i]) - held(b[i])
		if d < 0 {
			d = -d
		}
		sum += d
	}
	return sum
}

// ends are numbers at both ends of what Cost takes, within, and beyond.
var ends = append([]int{
	-1<<20 - 2, -1<<20 - 1, -1 << 20, -1<<20 + 1, -1<<20 + 2, -1<<21 - 1, -255, -2, -1, 0, 1, 2, 127, 128, 255,
	1<<20 - 2, 1<<20 - 1, 1 << 20, 1<<20 + 1, 1<<20 + 2, 1<<21 + 1}, far...)

// P8.2: each two numbers, at each place of the sixteen, from either side.
func TestCostOfTwo(t *testing.T) {
	for _, n := range ends {
		for _, m := range ends {
			want := held(n) - held(m)
			if want < 0 {
				want = -want
			}
			for i := range 16 {
				var a, b api.Block
				a[i], b[i] = n, m
				if Cost(a, b) != want || Cost(b, a) != want {
					t.Fatalf("%d, %d at %d: %d, %d; not %d", n, m, i, Cost(a, b), Cost(b, a), want)
				}
			}
			if Cost(even(n), even(m)) != 16*want {
				t.Fatalf("%d, %d: %d; not %d", n, m, Cost(even(n), even(m)), 16*want)
			}
		}
	}
}

// P8.2: the least and the greatest of all costs; of a block and itself it is 0.
func TestCostEnds(t *testing.T) {
	for i, c := range []struct{ a, b, want int }{
		{0, 0, 0}, {math.MinInt, math.MinInt, 0}, {math.MaxInt, math.MaxInt, 0}, {math.MaxInt, 1 << 20, 0}, {math.MinInt, -1 << 20, 0},
		{math.MinInt, math.MaxInt, 16 << 21}, {-1 << 20, 1 << 20, 16 << 21}, {math.MinInt, 0, 16 << 20}, {0, math.MaxInt, 16 << 20}, {1<<20 - 1, math.MaxInt, 16},
	} {
		if n := Cost(even(c.a), even(c.b)); n != c.want {
			t.Errorf("%d: %d", i, n)
		}
	}
}

// P8.2: blocks of many numbers: differences of unlike signs add up.
func TestCostOfMany(t *testing.T) {
	if n := Cost(api.Block{1, 2, 3, 4}, api.Block{4, 3, 2, 1, -5}); n != 13 {
		t.Errorf("%d", n)
	}
	n := numbers(30)
	for range 2000 {
		var a, b api.Block
		for i := range a {
			a[i], b[i] = n.below(1<<23)-1<<22, n.below(1<<23)-1<<22
			if n.below(4) == 0 {
				a[i] = ends[n.below(len(ends))]
			}
		}
		if Cost(a, b) != apart(a, b) || Cost(b, a) != apart(a, b) {
			t.Fatalf("%v, %v: %d, %d; not %d", a, b, Cost(a, b), Cost(b, a), apart(a, b))
		}
	}
}

// first is Best of what may be, by the chapter's words.
func first(f api.Frame, p, x, y int, b api.Block) (int, int) {
	var costs [4]int
	for mode := range 4 {
		costs[mode] = apart(plain(f, p, x, y, mode), b)
	}
	least := min(costs[0], costs[1], costs[2], costs[3])
	for mode, n := range costs {
		if n == least {
			return mode, n
		}
	}
	return -1, -1
}

// best holds Best to the chapter's words, and to no mode leaving less.
func best(t *testing.T, f api.Frame, p, x, y int, b api.Block) int {
	t.Helper()
	mode, cost := Best(f, p, x, y, b)
	if m, c := first(f, p, x, y, b); mode != m || cost != c {
		t.Fatalf("plane %d, at %d, %d: %d, %d; not %d, %d", p, x, y, mode, cost, m, c)
	}
	for other := range 4 {
		guess, _ := Predict(f, p, x, y, other)
		if n := Cost(guess, b); n < cost || n == cost && other < mode || n != cost && other == mode {
			t.Fatalf("plane %d, at %d, %d: the mode %d leaves %d, not %d as %d", p, x, y, other, n, cost, mode)
		}
	}
	return mode
}

// P8.2: each place of each plane, by blocks that look like chance, and by such that are near to a mode's; each mode is the best one often.
func TestBestEverywhere(t *testing.T) {
	n := numbers(31)
	var often [4]int
	for _, sides := range [][2]int{{8, 8}, {24, 16}, {64, 64}} {
		f := made(&n, sides[0], sides[1])
		for p := range 3 {
			for x := range 65 {
				for y := range 65 {
					b, _ := Predict(f, p, x, y, n.below(4))
					for i := range b {
						b[i] += n.below(40) - 20
					}
					often[best(t, f, p, x, y, b)]++
					for i := range b {
						b[i] = n.below(256)
					}
					best(t, f, p, x, y, b)
				}
			}
		}
	}
	for mode, n := range often {
		if n < 1000 {
			t.Errorf("the mode %d is the best one but %d times", mode, n)
		}
	}
}

// P8.2: of modes that leave as much as one another the first one is told.
func TestBestOfSeveral(t *testing.T) {
	flat := of(8, 8, 7)
	for _, c := range []struct{ x, y, sample, mode, cost int }{
		{4, 4, 7, api.MMean, 0}, {4, 4, 9, api.MMean, 32}, {0, 0, 128, api.MMean, 0}, {0, 0, 0, api.MMean, 2048},
		{0, 4, 7, api.MDown, 0}, {4, 0, 7, api.MRight, 0}, {0, 4, 128, api.MRight, 0}, {4, 0, 128, api.MDown, 0}, {0, 4, 68, api.MMean, 0}, {4, 0, 68, api.MMean, 0},
	} {
		if m, n := Best(flat, 0, c.x, c.y, even(c.sample)); m != c.mode || n != c.cost {
			t.Errorf("%v: %d, %d", c, m, n)
		}
	}
	for _, c := range []struct {
		above, left [4]byte
		b           api.Block
		mode, cost  int
	}{
		// Down and right leave as much, the mean and the slant more.
		{[4]byte{0, 20, 0, 20}, [4]byte{0, 20, 0, 20}, api.Block{0, 0, 0, 0, 0, 20, 0, 20, 0, 0, 0, 0, 0, 20, 0, 20}, api.MDown, 80},
		// The mean, right and the slant leave nothing, by halves that go up.
		{[4]byte{6, 6, 6, 6}, [4]byte{7, 7, 7, 7}, even(7), api.MMean, 0},
		// One mode alone leaves nothing, but for the mean, which the slant is, too, where both edges are even.
		{[4]byte{6, 6, 6, 6}, [4]byte{7, 7, 7, 9}, api.Block{7, 7, 7, 7, 7, 7, 7, 7, 7, 7, 7, 7, 9, 9, 9, 9}, api.MRight, 0},
		{[4]byte{5, 5, 5, 5}, [4]byte{7, 7, 7, 7}, even(5), api.MDown, 0},
		{[4]byte{5, 5, 5, 5}, [4]byte{7, 7, 7, 7}, even(6), api.MMean, 0},
		{[4]byte{5, 5, 5, 5}, [4]byte{7, 7, 7, 7}, even(7), api.MRight, 0},
		{[4]byte{10, 20, 30, 40}, [4]byte{40, 30, 20, 10}, api.Block{25, 30, 35, 40, 20, 25, 30, 35, 15, 20, 25, 30, 10, 15, 20, 25}, api.MSlant, 0},
	} {
		f := edged(c.above, c.left)
		if m, n := Best(f, 0, 4, 4, c.b); m != c.mode || n != c.cost {
			t.Errorf("%v: %d, %d", c, m, n)
		}
		best(t, f, 0, 4, 4, c.b)
	}
}

// P8.2: small samples leave as much by several modes again and again: the first one is told of each of them.
func TestBestTies(t *testing.T) {
	n := numbers(32)
	ties := map[[2]int]int{}
	for range 50000 {
		f := edged([4]byte{byte(n.below(3)), byte(n.below(3)), byte(n.below(3)), byte(n.below(3))}, [4]byte{byte(n.below(3)), byte(n.below(3)), byte(n.below(3)), byte(n.below(3))})
		var b api.Block
		for i := range b {
			b[i] = n.below(3)
		}
		mode := best(t, f, 0, 4, 4, b)
		for other := mode + 1; other < 4; other++ {
			if apart(plain(f, 0, 4, 4, other), b) == apart(plain(f, 0, 4, 4, mode), b) {
				ties[[2]int{mode, other}]++
			}
		}
	}
	for mode := range 4 {
		for other := mode + 1; other < 4; other++ {
			if ties[[2]int{mode, other}] == 0 {
				t.Errorf("%d and %d never leave as much", mode, other)
			}
		}
	}
}

// P8.2: blocks of numbers that are no samples, both ends of an int among them.
func TestBestOfFarNumbers(t *testing.T) {
	n := numbers(33)
	f := made(&n, 16, 16)
	for _, m := range ends {
		for p := range 3 {
			for _, x := range []int{0, 4, 64} {
				for _, y := range []int{0, 4, 64} {
					best(t, f, p, x, y, even(m))
					best(t, f, p, x, y, api.Block{m, 1: 5, 2: m, 7: -m, 15: m})
				}
			}
		}
	}
}
