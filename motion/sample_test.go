package motion

import (
	"math"
	"testing"

	"clapboard/api"
)

// at is a plane's sample at a place, or the nearest one, by chapter 7's words.
func at(f api.Frame, p, x, y int) int {
	w, h := sides(f, p)
	for x < 0 {
		x++
	}
	for x >= w {
		x--
	}
	for y < 0 {
		y++
	}
	for y >= h {
		y--
	}
	return int(f.Planes[p][y*w+x])
}

// whole is the greatest whole number that is not above half of n.
func whole(n int) int { return int(math.Floor(float64(n) / 2)) }

// plain is Sample, of a frame and a plane that may be, by the chapter's words.
func plain(f api.Frame, p, x, y int) int {
	x, y = min(max(x, -256), 256), min(max(y, -256), 256)
	left, top := whole(x), whole(y)
	oddX, oddY := 2*left != x, 2*top != y
	switch {
	case oddX && oddY:
		return (at(f, p, left, top) + at(f, p, left+1, top) + at(f, p, left, top+1) + at(f, p, left+1, top+1) + 2) / 4
	case oddX:
		return (at(f, p, left, top) + at(f, p, left+1, top) + 1) / 2
	case oddY:
		return (at(f, p, left, top) + at(f, p, left, top+1) + 1) / 2
	}
	return at(f, p, left, top)
}

// P9.2: each place in halves, of each plane of frames of unlike sides, from far below 0 to far beyond the last one.
func TestEveryHalf(t *testing.T) {
	n := numbers(100)
	for _, sides := range [][2]int{{8, 8}, {16, 8}, {8, 24}, {64, 8}, {8, 64}, {64, 64}} {
		f := made(&n, sides[0], sides[1])
		for p := range 3 {
			for x := -12; x <= 2*sides[0]+12; x++ {
				for y := -12; y <= 2*sides[1]+12; y++ {
					if got, want := Sample(f, p, x, y), plain(f, p, x, y); got != want {
						t.Fatalf("%v, plane %d, at %d, %d: %d, not %d", sides, p, x, y, got, want)
					}
				}
			}
		}
	}
}

// P9.2: frames of all sides, near to their ends.
func TestEverySide(t *testing.T) {
	n := numbers(101)
	for _, w := range allowed {
		for _, h := range allowed {
			f := made(&n, w, h)
			for p := range 3 {
				for _, x := range []int{-3, -2, -1, 0, 1, w - 3, w - 2, w - 1, w, w + 1, 2*w - 3, 2*w - 2, 2*w - 1, 2 * w, 2*w + 1} {
					for _, y := range []int{-3, -2, -1, 0, 1, h - 3, h - 2, h - 1, h, h + 1, 2*h - 3, 2*h - 2, 2*h - 1, 2 * h, 2*h + 1} {
						if got, want := Sample(f, p, x, y), plain(f, p, x, y); got != want {
							t.Fatalf("%d by %d, plane %d, at %d, %d: %d, not %d", w, h, p, x, y, got, want)
						}
					}
				}
			}
		}
	}
}

// P9.2: even and odd places each way, told one by one; below 0 the whole sample beside is the greatest whole number not above, so that -1 is between -1 and 0, both of which are the first sample.
func TestHalves(t *testing.T) {
	f := of(8, 8, 0)
	for y, row := range [][8]byte{{10, 20, 31}, {40, 51, 60}, {0, 3, 200}} {
		copy(f.Planes[0][8*y:], row[:])
	}
	for _, c := range [][3]int{
		{0, 0, 10}, {1, 0, 15}, {2, 0, 20}, {3, 0, 26}, {4, 0, 31}, {5, 0, 16}, {6, 0, 0},
		{0, 1, 25}, {1, 1, 30}, {2, 1, 36}, {3, 1, 41}, {4, 1, 46}, {0, 2, 40}, {1, 2, 46}, {3, 2, 56}, {0, 3, 20}, {1, 3, 24}, {3, 3, 79}, {2, 3, 27},
		{-1, 0, 10}, {-2, 0, 10}, {-3, 0, 10}, {0, -1, 10}, {0, -2, 10}, {0, -3, 10}, {-1, -1, 10}, {-2, -1, 10}, {-1, -2, 10}, {-3, -5, 10},
		{1, -1, 15}, {1, -2, 15}, {1, -3, 15}, {3, -1, 26}, {2, -1, 20}, {-1, 1, 25}, {-2, 1, 25}, {-3, 1, 25}, {-1, 2, 40}, {-1, 3, 20},
	} {
		if n := Sample(f, 0, c[0], c[1]); n != c[2] {
			t.Errorf("%d, %d: %d, not %d", c[0], c[1], n, c[2])
		}
	}
}

// P9.2: places at and beyond -256 and 256, and as far as an int goes, are those of the ends of the plane.
func TestFarPlaces(t *testing.T) {
	n := numbers(102)
	f := made(&n, 64, 64)
	f.Planes[0][0], f.Planes[0][63], f.Planes[0][63*64], f.Planes[0][64*64-1] = 1, 2, 3, 4
	ends := append([]int{-259, -258, -254, -253, -128, -127, 127, 128, 253, 254, 258, 259}, far...)
	for p := range 3 {
		for _, x := range ends {
			for y := -4; y <= 140; y++ {
				if got, want := Sample(f, p, x, y), plain(f, p, x, y); got != want {
					t.Fatalf("plane %d, at %d, %d: %d, not %d", p, x, y, got, want)
				}
				if got, want := Sample(f, p, y, x), plain(f, p, y, x); got != want {
					t.Fatalf("plane %d, at %d, %d: %d, not %d", p, y, x, got, want)
				}
			}
			for _, y := range ends {
				corner := 1
				if x > 0 {
					corner++
				}
				if y > 0 {
					corner += 2
				}
				if got := Sample(f, 0, x, y); got != corner {
					t.Errorf("at %d, %d: %d, not %d", x, y, got, corner)
				}
			}
		}
	}
}

// four is a frame whose second row and second column begin with these.
func four(p int, samples [4]byte) api.Frame {
	f := of(8, 8, 77)
	w, _ := sides(f, p)
	for i, n := range samples {
		f.Planes[p][(1+i/2)*w+1+i%2] = n
	}
	return f
}

// P9.2: each two samples' mean, this way and that; a half goes up.
func TestMeansOfTwo(t *testing.T) {
	for a := range 256 {
		for b := range 256 {
			want := (a + b) / 2
			if (a+b)%2 == 1 {
				want++
			}
			f := four(0, [4]byte{byte(a), byte(b), byte(b), 200})
			if across, down := Sample(f, 0, 3, 2), Sample(f, 0, 2, 3); across != want || down != want {
				t.Fatalf("%d, %d: %d, %d; not %d", a, b, across, down, want)
			}
		}
	}
}

// P9.2: four samples' means, by each sum that there is; each of the four counts, and a half goes up, but a quarter down.
func TestMeansOfFour(t *testing.T) {
	for sum := range 4*255 + 1 {
		want := sum / 4
		if sum%4 >= 2 {
			want++
		}
		for p := range 3 {
			var samples [4]byte
			for i := range samples {
				samples[i] = byte((sum + (i+p)%4) / 4)
			}
			if n := Sample(four(p, samples), p, 3, 3); n != want {
				t.Fatalf("%v: %d, not %d", samples, n, want)
			}
		}
	}
	for i := range 4 {
		for n := range 256 {
			var samples [4]byte
			samples[i] = byte(n)
			if got := Sample(four(0, samples), 0, 3, 3); got != (n+2)/4 {
				t.Fatalf("%v: %d", samples, got)
			}
		}
	}
}

// P9.2: a sample hangs on nothing but those that it is between.
func TestSampleOfNothingElse(t *testing.T) {
	n := numbers(103)
	for p := range 3 {
		f, g := made(&n, 16, 16), made(&n, 16, 16)
		w, _ := sides(f, p)
		for i := range 4 {
			g.Planes[p][(2+i/2)*w+5+i%2] = f.Planes[p][(2+i/2)*w+5+i%2]
		}
		for _, c := range [][2]int{{10, 4}, {11, 4}, {10, 5}, {11, 5}, {12, 4}, {12, 5}, {10, 6}, {11, 6}, {12, 6}} {
			if a, b := Sample(f, p, c[0], c[1]), Sample(g, p, c[0], c[1]); a != b {
				t.Errorf("plane %d, at %v: %d, %d", p, c, a, b)
			}
		}
	}
}
