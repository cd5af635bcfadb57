package wave

import (
	"math"
	"testing"

	"clapboard/api"
)

// edges are numbers at, and beyond, both ends, with what they are clamped to.
var edges = []struct{ n, clamped int }{
	{most - 1, most - 1}, {most, most}, {most + 1, most}, {most + 16, most}, {2 * most, most}, {1 << 31, most}, {1 << 32, most}, {1<<60 + 5, most}, {math.MaxInt - 1, most}, {math.MaxInt, most},
	{1 - most, 1 - most}, {-most, -most}, {-most - 1, -most}, {-most - 16, -most}, {-2 * most, -most}, {-1 << 31, -most}, {-1 << 32, -most}, {-1<<60 - 5, -most}, {math.MinInt + 1, -most}, {math.MinInt, -most},
}

// P4.1: Forward and Back clamp each number ahead of all, at each place; what stands beside it stays.
func TestSumsClamp(t *testing.T) {
	if api.MaxLevel != most {
		t.Fatalf("MaxLevel: %d", api.MaxLevel)
	}
	for _, e := range edges {
		for at := range 16 {
			b, want := all(5), all(5)
			b[at], want[at] = e.n, e.clamped
			if f := Forward(b); f != slow(want) || f != Forward(want) {
				t.Errorf("Forward with %d at %d: %v", e.n, at, f)
			}
			if f := Back(b); f != slowBack(want) || f != Back(want) {
				t.Errorf("Back with %d at %d: %v", e.n, at, f)
			}
		}
	}
}

// P4.1: numbers that are known beyond the ends, so that no two ways of clamping agree by chance.
func TestSumsBeyondKnown(t *testing.T) {
	for _, c := range []struct{ n, forward, back int }{
		{math.MaxInt, 1 << 24, 1 << 20},
		{math.MinInt, -1 << 24, -1 << 20},
		{most + 1, 1 << 24, 1 << 20},
		{-most - 1, -1 << 24, -1 << 20},
	} {
		if f := Forward(all(c.n)); f != (api.Block{c.forward}) {
			t.Errorf("Forward of sixteen %d: %v", c.n, f)
		}
		if b := Back(all(c.n)); b != (api.Block{c.back}) {
			t.Errorf("Back of sixteen %d: %v", c.n, b)
		}
		if b := Back(api.Block{c.n}); b != all(c.back/16) {
			t.Errorf("Back of %d alone: %v", c.n, b)
		}
	}
}

// P4.1: each two edges beside one another, at places of other rows and columns.
func TestSumsOfTwoEdges(t *testing.T) {
	for _, a := range edges {
		for _, b := range edges {
			check(t, api.Block{a.n, b.n, 0, 0, 0, 0, b.n, 0, 0, 0, 0, 0, a.n, 0, 0, b.n})
		}
	}
}

// P4.2: Less and More, number by number, in the order in which both blocks stand.
func TestLessAndMore(t *testing.T) {
	a := api.Block{5, -5, 0, 9, 1, 2, 3, 4, 100, -100, 7, 7, 0, 0, -1, 255}
	b := api.Block{7, 5, 0, -9, 4, 3, 2, 1, -50, -50, 7, -7, 1, -1, -1, 254}
	if x := Less(a, b); x != (api.Block{-2, -10, 0, 18, -3, -1, 1, 3, 150, -50, 0, 14, -1, 1, 0, 1}) {
		t.Errorf("Less: %v", x)
	}
	if x := Less(b, a); x != (api.Block{2, 10, 0, -18, 3, 1, -1, -3, -150, 50, 0, -14, 1, -1, 0, -1}) {
		t.Errorf("Less, the other way round: %v", x)
	}
	want := api.Block{12, 0, 0, 0, 5, 5, 5, 5, 50, -150, 14, 0, 1, -1, -2, 509}
	if x, y := More(a, b), More(b, a); x != want || y != want {
		t.Errorf("More: %v, %v", x, y)
	}
}

// P4.2: Less and More clamp each number of both blocks ahead of all, at each place, and not what comes out of it.
func TestLessAndMoreClamp(t *testing.T) {
	for _, x := range edges {
		for _, y := range edges {
			for at := range 16 {
				a, b := alone(at, x.n), alone(at, y.n)
				if c := Less(a, b); c != alone(at, x.clamped-y.clamped) {
					t.Errorf("Less of %d and %d at %d: %v", x.n, y.n, at, c)
				}
				if c := More(a, b); c != alone(at, x.clamped+y.clamped) {
					t.Errorf("More of %d and %d at %d: %v", x.n, y.n, at, c)
				}
			}
		}
	}
}

// P4.2: what Less and More answer goes up to twice MaxLevel, from the ends and from beyond.
func TestLessAndMoreFarthest(t *testing.T) {
	up, down := all(math.MaxInt), all(math.MinInt)
	if Less(up, down) != all(2*most) || Less(down, up) != all(-2*most) || More(up, up) != all(2*most) || More(down, down) != all(-2*most) {
		t.Error("of the greatest and the least int")
	}
	if More(up, down) != all(0) || Less(up, up) != all(0) || Less(down, down) != all(0) {
		t.Error("of ends that meet")
	}
	if Less(all(most), all(-most)) != all(2*most) || More(all(-most), all(-most)) != all(-2*most) {
		t.Error("of MaxLevel")
	}
}

// P4.2: blocks of all kinds, against numbers one by one; and what was taken away comes back.
func TestLessAndMoreOfMany(t *testing.T) {
	s := numbers(2)
	for range 3000 {
		a, b := s.sized(), s.sized()
		less, more := Less(a, b), More(a, b)
		for i := range 16 {
			if less[i] != near(a[i])-near(b[i]) || more[i] != near(a[i])+near(b[i]) {
				t.Fatalf("%d and %d: %d, %d", a[i], b[i], less[i], more[i])
			}
		}
		c, d := s.block(most/2), s.block(most/2)
		if More(d, Less(c, d)) != c || Less(More(c, d), d) != c {
			t.Fatalf("%v and %v: not as it was", c, d)
		}
	}
}
