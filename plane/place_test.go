package plane

import (
	"testing"

	"clapboard/api"
)

// places are places about a side of n samples: within, at both ends, beside them, and far away.
func places(n int) []int {
	return append([]int{-200, -129, -128, -127, -68, -67, -66, -65, -64, -63, -5, -4, -3, -2, -1, 0, 1, 2, 3, 4, 5, n/2 - 1, n / 2,
		n - 5, n - 4, n - 3, n - 2, n - 1, n, n + 1, n + 2, n + 3, n + 4, 63, 64, 65, 67, 68, 124, 125, 126, 127, 128, 129, 130, 131, 132, 192, 200}, far...)
}

// held is n, or the end of 0 to most that is nearer.
func held(n, most int) int {
	switch {
	case n < 0:
		return 0
	case n > most:
		return most
	}
	return n
}

// plain is At, by the chapter's words.
func plain(f api.Frame, p, x, y int) int {
	w, h := wide(f, p), high(f, p)
	return int(f.Planes[p][w*held(y, h-1)+held(x, w-1)])
}

// ahead is a place as Get and Put take it.
func ahead(n int) int {
	switch {
	case n < -64:
		return -64
	case n > 128:
		return 128
	}
	return n
}

// P7.2: the sides of each plane; none of a plane that there isn't.
func TestSize(t *testing.T) {
	n := numbers(10)
	for _, w := range allowed {
		for _, h := range allowed {
			f := made(&n, w, h)
			for p, want := range [][2]int{{w, h}, {w / 2, h / 2}, {w / 2, h / 2}} {
				if a, b := Size(f, p); a != want[0] || b != want[1] {
					t.Errorf("%d, %d, plane %d: %d, %d", w, h, p, a, b)
				}
			}
			for _, p := range noPlanes {
				if a, b := Size(f, p); a != 0 || b != 0 {
					t.Errorf("%d, %d, plane %d: %d, %d", w, h, p, a, b)
				}
			}
		}
	}
}

// P7.2: each sample stands in the row y from the top, at the place x from the left.
func TestAtWithin(t *testing.T) {
	f := api.Frame{W: 8, H: 16, Planes: [3][]byte{make([]byte, 128), make([]byte, 32), make([]byte, 32)}}
	for i := range 128 {
		f.Planes[0][i] = byte(i)
	}
	for i := range 32 {
		f.Planes[1][i], f.Planes[2][i] = byte(128+i), byte(200+i)
	}
	for y := range 16 {
		for x := range 8 {
			if s := At(f, 0, x, y); s != 8*y+x {
				t.Errorf("%d, %d: %d", x, y, s)
			}
		}
	}
	for y := range 8 {
		for x := range 4 {
			if At(f, 1, x, y) != 128+4*y+x || At(f, 2, x, y) != 200+4*y+x {
				t.Errorf("%d, %d: %d, %d", x, y, At(f, 1, x, y), At(f, 2, x, y))
			}
		}
	}
}

// P7.2: a place outside is the nearest one of the plane: at each edge, each corner, and far away.
func TestAtOutside(t *testing.T) {
	n := numbers(11)
	for _, c := range [][2]int{{8, 8}, {8, 64}, {64, 8}, {16, 24}, {64, 64}} {
		f := made(&n, c[0], c[1])
		for p := range 3 {
			for _, x := range places(wide(f, p)) {
				for _, y := range places(high(f, p)) {
					if s := At(f, p, x, y); s != plain(f, p, x, y) {
						t.Fatalf("%v: At(%d, %d, %d): %d", c, p, x, y, s)
					}
				}
			}
		}
	}
}

// P7.2: of a plane that there isn't each sample is 0, each block too.
func TestNoPlane(t *testing.T) {
	f, _ := New(16, 16, 9)
	for _, p := range noPlanes {
		for _, x := range append([]int{-1, 0, 5, 15, 16}, far...) {
			if At(f, p, x, 0) != 0 || At(f, p, 0, x) != 0 || At(f, p, x, x) != 0 || Get(f, p, x, x) != (api.Block{}) || Get(f, p, x, 0) != (api.Block{}) {
				t.Errorf("plane %d, at %d", p, x)
			}
		}
	}
}

// P7.2: a block's numbers are the samples of four places by four, row by row.
func TestGetKnown(t *testing.T) {
	f := laidOut(16, 8)
	for i := range f.Planes[0] {
		f.Planes[0][i] = byte(i)
	}
	for i, c := range []struct {
		x, y int
		b    api.Block
	}{
		{0, 0, api.Block{0, 1, 2, 3, 16, 17, 18, 19, 32, 33, 34, 35, 48, 49, 50, 51}},
		{5, 2, api.Block{37, 38, 39, 40, 53, 54, 55, 56, 69, 70, 71, 72, 85, 86, 87, 88}},
		{12, 4, api.Block{76, 77, 78, 79, 92, 93, 94, 95, 108, 109, 110, 111, 124, 125, 126, 127}},
		{-2, -1, api.Block{0, 0, 0, 1, 0, 0, 0, 1, 16, 16, 16, 17, 32, 32, 32, 33}},
		{14, 6, api.Block{110, 111, 111, 111, 126, 127, 127, 127, 126, 127, 127, 127, 126, 127, 127, 127}},
	} {
		if b := Get(f, 0, c.x, c.y); b != c.b {
			t.Errorf("%d: %v", i, b)
		}
	}
}

// P7.2: blocks within, partly and wholly outside, their places clamped ahead, are what At tells of each place.
func TestGet(t *testing.T) {
	n := numbers(12)
	for _, c := range [][2]int{{8, 8}, {8, 64}, {64, 8}, {16, 24}, {64, 64}} {
		f := made(&n, c[0], c[1])
		before := kept(f)
		for p := range 3 {
			for _, x := range places(wide(f, p)) {
				for _, y := range places(high(f, p)) {
					b := Get(f, p, x, y)
					for i := range 4 {
						for k := range 4 {
							if b[4*i+k] != plain(f, p, ahead(x)+k, ahead(y)+i) {
								t.Fatalf("%v: Get(%d, %d, %d): %v", c, p, x, y, b)
							}
						}
					}
				}
			}
		}
		if !same(f, before) {
			t.Fatal("a frame that is read is another one")
		}
	}
}
