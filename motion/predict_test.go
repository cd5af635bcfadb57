package motion

import (
	"math"
	"slices"
	"testing"

	"clapboard/api"
	"clapboard/plane"
)

// moved is Predict of what may be, by the chapter's words.
func moved(f api.Frame, p, x, y int, v api.Vector) api.Block {
	var b api.Block
	for i := range 4 {
		for k := range 4 {
			b[4*i+k] = plain(f, p, 2*(x+k)+v.X, 2*(y+i)+v.Y)
		}
	}
	return b
}

// right holds a prediction to the chapter's words, and its numbers to be samples.
func right(t *testing.T, f api.Frame, p, x, y int, v api.Vector) {
	t.Helper()
	b, e := Predict(f, p, x, y, v)
	if want := moved(f, p, x, y, v); b != want || e != api.OK {
		t.Fatalf("%d by %d, plane %d, at %d, %d, by %v: %v, %v; not %v", f.W, f.H, p, x, y, v, b, e, want)
	}
	for _, n := range b {
		if n < 0 || n > 255 {
			t.Fatalf("plane %d, at %d, %d, by %v: %d is no sample", p, x, y, v, n)
		}
	}
}

// P9.3, P9.5: each place of each plane, by vectors of both ends and such as look like chance.
func TestEveryPlace(t *testing.T) {
	n := numbers(110)
	for _, sides := range [][2]int{{8, 8}, {40, 24}, {64, 64}} {
		f := made(&n, sides[0], sides[1])
		for p := range 3 {
			for x := 0; x <= 64; x++ {
				for y := 0; y <= 64; y++ {
					right(t, f, p, x, y, n.vector())
					right(t, f, p, x, y, api.Vector{X: ways[n.below(len(ways))], Y: ways[n.below(len(ways))]})
				}
			}
		}
	}
}

// P9.3, P9.5: each vector that may be, at the corners, and within.
func TestEveryVector(t *testing.T) {
	n := numbers(111)
	f := made(&n, 16, 24)
	for p := range 3 {
		w, h := sides(f, p)
		for _, at := range [][2]int{{0, 0}, {w - 4, 0}, {0, h - 4}, {w / 2, h / 2}, {64, 64}} {
			for x := -31; x <= 31; x++ {
				for y := -31; y <= 31; y++ {
					right(t, f, p, at[0], at[1], api.Vector{X: x, Y: y})
				}
			}
		}
	}
}

// P9.3: X goes across, and Y down; the row comes from y, and the column from x.
func TestWays(t *testing.T) {
	across, down := of(16, 16, 0), of(16, 16, 0)
	for i := range 256 {
		across.Planes[0][i] = byte(4 * (i % 16))
		down.Planes[0][i] = byte(4 * (i / 16))
	}
	for _, way := range []int{-8, -7, -2, -1, 0, 1, 2, 7, 8} {
		for _, other := range []int{-31, -3, 0, 5, 31} {
			a, _ := Predict(across, 0, 4, 8, api.Vector{X: way, Y: other})
			b, _ := Predict(down, 0, 8, 4, api.Vector{X: other, Y: way})
			for i := range 16 {
				if want := 16 + 4*(i%4) + 2*way; a[i] != want {
					t.Errorf("across %d: %v", way, a)
				}
				if want := 16 + 4*(i/4) + 2*way; b[i] != want {
					t.Errorf("down %d: %v", way, b)
				}
			}
		}
	}
}

// P9.5: without a vector a block is the other picture's, at each place of each plane.
func TestWithoutVector(t *testing.T) {
	n := numbers(112)
	for _, sides := range [][2]int{{8, 8}, {16, 48}, {64, 64}} {
		f := made(&n, sides[0], sides[1])
		for p := range 3 {
			for x := 0; x <= 64; x++ {
				for y := 0; y <= 64; y++ {
					if b, e := Predict(f, p, x, y, api.Vector{}); b != plane.Get(f, p, x, y) || e != api.OK {
						t.Fatalf("%v, plane %d, at %d, %d: %v, %v", sides, p, x, y, b, e)
					}
				}
			}
		}
	}
}

// P9.3: vectors of whole samples bring the block that is there, wherever that is.
func TestWholeVectors(t *testing.T) {
	n := numbers(113)
	f := made(&n, 24, 16)
	for p := range 3 {
		for x := -30; x <= 30; x += 2 {
			for y := -30; y <= 30; y += 2 {
				for _, at := range []int{0, 3, 8, 64} {
					if b, e := Predict(f, p, at, 4, api.Vector{X: x, Y: y}); b != plane.Get(f, p, at+x/2, 4+y/2) || e != api.OK {
						t.Fatalf("plane %d, at %d, by %d, %d: %v, %v", p, at, x, y, b, e)
					}
				}
			}
		}
	}
}

// P9.5: at the darkest, and the brightest, no prediction goes beyond; of one sample everywhere it is that.
func TestSamples(t *testing.T) {
	for _, sample := range []byte{0, 1, 127, 128, 254, 255} {
		f := of(8, 16, sample)
		for p := range 3 {
			for _, x := range ways {
				for _, y := range ways {
					for _, at := range []int{0, 4, 64} {
						if b, e := Predict(f, p, at, at, api.Vector{X: x, Y: y}); b != even(int(sample)) || e != api.OK {
							t.Fatalf("%d, by %d, %d: %v, %v", sample, x, y, b, e)
						}
					}
				}
			}
		}
	}
	n := numbers(114)
	f := few(&n, 32, 32, 2)
	for _, samples := range f.Planes {
		for i := range samples {
			samples[i] *= 255
		}
	}
	for range 2000 {
		right(t, f, n.below(3), n.below(33), n.below(33), n.vector())
	}
}

// held is a number as Both takes it.
func held(n int) int {
	switch {
	case n < 0:
		return 0
	case n > 255:
		return 255
	}
	return n
}

// both holds Both of two blocks to the chapter's words, from either side, and its numbers to be samples.
func both(t *testing.T, a, b api.Block) {
	t.Helper()
	got, other := Both(a, b), Both(b, a)
	for i := range 16 {
		want := (held(a[i]) + held(b[i])) / 2
		if (held(a[i])+held(b[i]))%2 == 1 {
			want++
		}
		if got[i] != want || other[i] != want || want < 0 || want > 255 {
			t.Fatalf("%d, %d at %d: %d, %d; not %d", a[i], b[i], i, got[i], other[i], want)
		}
	}
}

// P9.3, P9.5: each two samples; a half goes up.
func TestBothOfSamples(t *testing.T) {
	for a := range 256 {
		for b := range 256 {
			both(t, even(a), even(b))
		}
	}
}

// P9.3, P9.5: numbers that are no samples, below 0 and above 255, both ends of an int among them, are the nearest one ahead of the sum.
func TestBothOfFarNumbers(t *testing.T) {
	ends := append([]int{-300, -254, -2, -1, 0, 1, 2, 127, 128, 253, 254, 258, 300, 510, 511}, far...)
	for _, a := range ends {
		for _, b := range ends {
			both(t, even(a), even(b))
		}
	}
	for _, c := range [][3]int{{-1, 0, 0}, {-1, 1, 1}, {-9, 7, 4}, {256, 0, 128}, {300, 1, 128}, {257, 255, 255}, {math.MaxInt, math.MaxInt, 255}, {math.MinInt, math.MinInt, 0}, {math.MinInt, math.MaxInt, 128}, {math.MaxInt, 3, 129}, {math.MinInt, 3, 2}} {
		if b := Both(even(c[0]), even(c[1])); b != even(c[2]) {
			t.Errorf("%v: %v", c, b)
		}
	}
}

// P9.3: number by number: each of sixteen by itself.
func TestBothOfMany(t *testing.T) {
	if b := Both(api.Block{1, 300, -5}, api.Block{4, 0, 7}); b != (api.Block{3, 128, 4}) {
		t.Errorf("%v", b)
	}
	n := numbers(115)
	for range 5000 {
		var a, b api.Block
		for i := range a {
			a[i], b[i] = n.below(400)-70, n.below(400)-70
			if n.below(8) == 0 {
				a[i] = far[n.below(len(far))]
			}
		}
		both(t, a, b)
	}
	for i := range 16 {
		var a, want api.Block
		a[i], want[i] = 9, 5
		if b := Both(a, api.Block{}); b != want {
			t.Errorf("%d: %v", i, b)
		}
	}
}

// P9.5: both predictions of one block, or one that comes from both sides, have samples.
func TestBothOfPredictions(t *testing.T) {
	n := numbers(116)
	f, g := made(&n, 16, 16), made(&n, 16, 16)
	for range 2000 {
		p, x, y := n.below(3), n.below(65), n.below(65)
		a, _ := Predict(f, p, x, y, n.vector())
		b, _ := Predict(g, p, x, y, n.vector())
		both(t, a, b)
		if Both(a, a) != a {
			t.Fatalf("%v: %v", a, Both(a, a))
		}
		if c := Both(a, b); slices.Max(c[:]) > 255 || slices.Min(c[:]) < 0 {
			t.Fatalf("%v", c)
		}
	}
}
