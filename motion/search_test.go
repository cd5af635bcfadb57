package motion

import (
	"math"
	"slices"
	"testing"

	"clapboard/api"
	"clapboard/intra"
)

// found is a vector, and what it leaves.
type found struct {
	v    api.Vector
	cost int
}

// all are the vectors, of all that may be, that are at most 2 from another one each way, and what each leaves, by the chapter's words.
func all(f api.Frame, p, x, y int, b api.Block, about api.Vector) []found {
	var l []found
	for h := 31; h >= -31; h-- {
		for v := 31; v >= -31; v-- {
			// A sum or a difference of about's own numbers may be none.
			if about.X >= h-2 && about.X <= h+2 && about.Y >= v-2 && about.Y <= v+2 {
				to := api.Vector{X: h, Y: v}
				l = append(l, found{to, intra.Cost(moved(f, p, x, y, to), b)})
			}
		}
	}
	return l
}

// ahead tells which of two is wanted: what leaves less, is of the lesser Y, of the lesser X.
func ahead(a, b found) int {
	switch {
	case a.cost != b.cost:
		return a.cost - b.cost
	case a.v.Y != b.v.Y:
		return a.v.Y - b.v.Y
	}
	return a.v.X - b.v.X
}

// searched holds Search to the chapter's words, and tells what it found, and all that there was.
func searched(t *testing.T, f api.Frame, p, x, y int, b api.Block, about api.Vector) (found, []found) {
	t.Helper()
	v, n := Search(f, p, x, y, b, about)
	l := all(f, p, x, y, b, about)
	want := found{cost: -1}
	if len(l) > 0 {
		want = slices.MinFunc(l, ahead)
	}
	if (found{v, n}) != want {
		t.Fatalf("plane %d, at %d, %d, about %v: %v, %d; not %v", p, x, y, about, v, n, want)
	}
	return found{v, n}, l
}

// P9.4: places of each plane, by blocks that look like chance, and by such that are near to some other place's, about vectors within, at and beyond both ends.
func TestSearch(t *testing.T) {
	n := numbers(120)
	for _, sides := range [][2]int{{8, 8}, {24, 16}, {64, 64}} {
		f := made(&n, sides[0], sides[1])
		for range 3000 {
			p, x, y := n.below(3), n.below(65), n.below(65)
			about := api.Vector{X: n.below(75) - 37, Y: n.below(75) - 37}
			b, _ := Predict(f, p, x, y, n.vector())
			for i := range b {
				b[i] += n.below(30) - 15
			}
			searched(t, f, p, x, y, b, about)
			for i := range b {
				b[i] = n.below(256)
			}
			searched(t, f, p, x, y, b, about)
		}
	}
}

// P9.4: each vector about which there is something to be found, and those next to it: how many are beside each, and that the best one is told.
func TestSearchAboutEach(t *testing.T) {
	n := numbers(121)
	f := made(&n, 16, 16)
	beside := func(n int) int {
		return max(0, min(n+2, 31)-max(n-2, -31)+1)
	}
	for x := -36; x <= 36; x++ {
		for y := -36; y <= 36; y++ {
			_, l := searched(t, f, 0, 4, 8, even(128), api.Vector{X: x, Y: y})
			if len(l) != beside(x)*beside(y) {
				t.Fatalf("about %d, %d: %d", x, y, len(l))
			}
		}
	}
}

// P9.4: a block that was moved by at most two halves is found with nothing left, whichever way, and about whichever vector.
func TestSearchFindsMoved(t *testing.T) {
	n := numbers(122)
	f := made(&n, 64, 64)
	for _, about := range []api.Vector{{}, {X: 7, Y: -9}, {X: -31, Y: 31}, {X: 30, Y: -30}, {X: -33, Y: 0}, {X: 32, Y: 33}} {
		for x := -2; x <= 2; x++ {
			for y := -2; y <= 2; y++ {
				v := api.Vector{X: about.X + x, Y: about.Y + y}
				b, e := Predict(f, 0, 24, 28, v)
				if e != api.OK {
					continue
				}
				if w, cost := Search(f, 0, 24, 28, b, about); w != v || cost != 0 {
					t.Errorf("about %v, %v: %v, %d", about, v, w, cost)
				}
				for p := range 3 {
					for _, at := range []int{0, 1, 30, 64} {
						b, _ := Predict(f, p, at, at, v)
						if got, _ := searched(t, f, p, at, at, b, about); got.cost != 0 {
							t.Errorf("plane %d, at %d, about %v, %v: %v", p, at, about, v, got)
						}
					}
				}
			}
		}
	}
}

// P9.4: a vector three halves off is not looked at, though it would leave nothing.
func TestSearchGoesNoFarther(t *testing.T) {
	n := numbers(123)
	f := made(&n, 64, 64)
	for _, off := range []api.Vector{{X: 3}, {X: -3}, {Y: 3}, {Y: -3}, {X: 3, Y: 3}, {X: -3, Y: 2}, {X: 2, Y: -3}, {X: 4}, {Y: -4}} {
		for _, about := range []api.Vector{{}, {X: 5, Y: 6}, {X: -20, Y: 11}} {
			b, _ := Predict(f, 0, 24, 28, api.Vector{X: about.X + off.X, Y: about.Y + off.Y})
			if got, _ := searched(t, f, 0, 24, 28, b, about); got.cost <= 0 {
				t.Errorf("about %v, %v off: %v", about, off, got)
			}
		}
	}
}

// P9.4: where all leave as much as one another, the one of the least Y is told, and of these the one of the least X, as far as they may be.
func TestSearchOfAlike(t *testing.T) {
	f := of(16, 16, 7)
	for _, c := range []struct{ about, want api.Vector }{
		{api.Vector{}, api.Vector{X: -2, Y: -2}}, {api.Vector{X: 5, Y: 31}, api.Vector{X: 3, Y: 29}}, {api.Vector{X: 31, Y: 5}, api.Vector{X: 29, Y: 3}},
		{api.Vector{X: -29, Y: -29}, api.Vector{X: -31, Y: -31}}, {api.Vector{X: -30, Y: 0}, api.Vector{X: -31, Y: -2}}, {api.Vector{X: 0, Y: -30}, api.Vector{X: -2, Y: -31}},
		{api.Vector{X: -31, Y: -31}, api.Vector{X: -31, Y: -31}}, {api.Vector{X: -33, Y: -33}, api.Vector{X: -31, Y: -31}}, {api.Vector{X: -33, Y: 33}, api.Vector{X: -31, Y: 31}},
		{api.Vector{X: 33, Y: 33}, api.Vector{X: 31, Y: 31}}, {api.Vector{X: 33, Y: -33}, api.Vector{X: 31, Y: -31}}, {api.Vector{X: 32, Y: 32}, api.Vector{X: 30, Y: 30}},
		{api.Vector{X: 33, Y: 0}, api.Vector{X: 31, Y: -2}}, {api.Vector{X: 0, Y: 33}, api.Vector{X: -2, Y: 31}}, {api.Vector{X: -33, Y: 0}, api.Vector{X: -31, Y: -2}}, {api.Vector{X: 0, Y: -33}, api.Vector{X: -2, Y: -31}},
	} {
		for p := range 3 {
			for _, at := range []int{0, 4, 64} {
				if v, n := Search(f, p, at, at, even(7), c.about); v != c.want || n != 0 {
					t.Errorf("about %v: %v, %d", c.about, v, n)
				}
				if v, n := Search(f, p, at, at, even(9), c.about); v != c.want || n != 32 {
					t.Errorf("about %v: %v, %d", c.about, v, n)
				}
			}
		}
	}
}

// P9.4: where only one way tells anything, the other is the least; and Y goes ahead of X.
func TestSearchOfAlikeOneWay(t *testing.T) {
	across, down := of(16, 16, 0), of(16, 16, 0)
	for i := range 256 {
		across.Planes[0][i], down.Planes[0][i] = byte(8*(i%16)), byte(8*(i/16))
	}
	for off := -2; off <= 2; off++ {
		b, _ := Predict(across, 0, 4, 4, api.Vector{X: off})
		if v, n := Search(across, 0, 4, 4, b, api.Vector{}); v != (api.Vector{X: off, Y: -2}) || n != 0 {
			t.Errorf("X %d: %v, %d", off, v, n)
		}
		b, _ = Predict(down, 0, 4, 4, api.Vector{Y: off})
		if v, n := Search(down, 0, 4, 4, b, api.Vector{}); v != (api.Vector{X: -2, Y: off}) || n != 0 {
			t.Errorf("Y %d: %v, %d", off, v, n)
		}
	}
	slant := of(32, 32, 0)
	for i := range 1024 {
		slant.Planes[0][i] = byte(4 * (i%32 + i/32))
	}
	b, _ := Predict(slant, 0, 12, 12, api.Vector{})
	if v, n := Search(slant, 0, 12, 12, b, api.Vector{}); v != (api.Vector{X: 2, Y: -2}) || n != 0 {
		t.Errorf("%v, %d", v, n)
	}
}

// P9.4: few samples that are unlike make several vectors leave as much again and again, of one Y, of one X, and of neither.
func TestSearchTies(t *testing.T) {
	n := numbers(124)
	var sameY, sameX, crossed int
	for range 4000 {
		f := few(&n, 8, 8, 3)
		var b api.Block
		for i := range b {
			b[i] = n.below(3)
		}
		got, l := searched(t, f, 0, 2, 2, b, api.Vector{X: n.below(5) - 2, Y: n.below(5) - 2})
		for _, other := range l {
			switch {
			case other == got || other.cost != got.cost:
			case other.v.Y == got.v.Y:
				sameY++
			case other.v.X == got.v.X:
				sameX++
			case other.v.X < got.v.X:
				crossed++
			}
		}
	}
	if sameY < 100 || sameX < 100 || crossed < 100 {
		t.Errorf("%d of one Y, %d of one X, %d of neither", sameY, sameX, crossed)
	}
}

// P9.4: about a vector that goes three or more beyond, one way or both, there is none: no vector, and -1; up to two beyond there is one.
func TestSearchOfNone(t *testing.T) {
	n := numbers(125)
	f := made(&n, 16, 16)
	beyond := []int{-36, -35, -34, 34, 35, 36}
	for _, way := range append(beyond, far...) {
		for _, other := range slices.Concat(ways, []int{-33, -32, 32, 33}, beyond, far) {
			for p := range 3 {
				none(t, "X", f, p, 4, 4, even(0), api.Vector{X: way, Y: other})
				none(t, "Y", f, p, 4, 4, even(0), api.Vector{X: other, Y: way})
			}
		}
	}
	for _, way := range []int{-33, -32, 32, 33} {
		for _, other := range []int{-33, -32, -31, 0, 31, 32, 33} {
			for _, about := range []api.Vector{{X: way, Y: other}, {X: other, Y: way}} {
				got, _ := searched(t, f, 0, 4, 4, even(0), about)
				if got.cost < 0 || Check(got.v) != api.OK {
					t.Errorf("about %v: %v", about, got)
				}
			}
		}
	}
}

// P9.4: blocks of numbers that are no samples, both ends of an int among them.
func TestSearchOfFarNumbers(t *testing.T) {
	n := numbers(126)
	f := made(&n, 16, 16)
	for _, m := range append([]int{-1, 256, -1 << 20, 1 << 20, 1<<20 + 1, math.MaxInt32}, far...) {
		for p := range 3 {
			for _, at := range []int{0, 4, 64} {
				searched(t, f, p, at, at, even(m), api.Vector{X: 1, Y: -1})
				searched(t, f, p, at, at, api.Block{m, 1: 5, 2: m, 7: 200, 15: m}, api.Vector{X: 30, Y: -33})
			}
		}
	}
}

// P9.4, R4: the vectors beside one may be left early, and gone through again: they are the same each time, in the order of Y, and of X.
func TestBesideAgain(t *testing.T) {
	order := func(a, b api.Vector) int { return ahead(found{v: a}, found{v: b}) }
	for _, about := range []api.Vector{{}, {X: 30, Y: -33}, {X: math.MaxInt, Y: math.MinInt}, {X: -31, Y: 31}} {
		vectors := beside(about)
		whole := slices.Collect(vectors)
		if !slices.IsSortedFunc(whole, order) {
			t.Errorf("about %v: %v", about, whole)
		}
		for leave := range whole {
			var l []api.Vector
			for v := range vectors {
				if l = append(l, v); len(l) > leave {
					break
				}
			}
			if !slices.Equal(l, whole[:leave+1]) {
				t.Errorf("about %v, left behind %d: %v", about, leave, l)
			}
		}
	}
}
