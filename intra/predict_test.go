package intra

import (
	"testing"

	"clapboard/api"
)

// at is a plane's sample at a place, or the nearest one, by chapter 7's words.
func at(f api.Frame, p, x, y int) int {
	w, h := f.W, f.H
	if p > 0 {
		w, h = w/2, h/2
	}
	for x < 0 {
		x++
	}
	for x >= w {
		x--
	}
	for y < 0 {
		y++
	}
	for y >= h {
		y--
	}
	return int(f.Planes[p][y*w+x])
}

// plain is Predict of what may be, by the chapter's words.
func plain(f api.Frame, p, x, y, mode int) api.Block {
	above, left := []int{128, 128, 128, 128}, []int{128, 128, 128, 128}
	for k := range 4 {
		if y > 0 {
			above[k] = at(f, p, x+k, y-1)
		}
		if x > 0 {
			left[k] = at(f, p, x-1, y+k)
		}
	}
	sum := 4
	for k := range 4 {
		sum += above[k] + left[k]
	}
	var b api.Block
	for i := range 4 {
		for k := range 4 {
			switch mode {
			case 0:
				b[4*i+k] = sum / 8
			case 1:
				b[4*i+k] = above[k]
			case 2:
				b[4*i+k] = left[i]
			case 3:
				b[4*i+k] = (above[k] + left[i] + 1) / 2
			}
		}
	}
	return b
}

// right holds all four predictions of a place to the chapter's words, and their numbers to be samples.
func right(t *testing.T, f api.Frame, p, x, y int) {
	t.Helper()
	for mode := range 4 {
		b, e := Predict(f, p, x, y, mode)
		if want := plain(f, p, x, y, mode); b != want || e != api.OK {
			t.Fatalf("%d by %d, plane %d, at %d, %d, mode %d: %v, %v; not %v", f.W, f.H, p, x, y, mode, b, e, want)
		}
		for _, n := range b {
			if n < 0 || n > 255 {
				t.Fatalf("plane %d, at %d, %d, mode %d: %d is no sample", p, x, y, mode, n)
			}
		}
	}
}

// P8.1, P8.3: each place of each plane, of frames of unlike sides: within, at the rim, where the four samples go beyond, and behind the last one.
func TestEveryPlace(t *testing.T) {
	n := numbers(20)
	for _, sides := range [][2]int{{8, 8}, {16, 8}, {8, 16}, {40, 24}, {64, 8}, {8, 64}, {56, 64}, {64, 64}} {
		f := made(&n, sides[0], sides[1])
		for p := range 3 {
			for x := 0; x <= 64; x++ {
				for y := 0; y <= 64; y++ {
					right(t, f, p, x, y)
				}
			}
		}
	}
}

// P8.1, P8.3: frames of all sides.
func TestEverySide(t *testing.T) {
	n := numbers(21)
	for _, w := range allowed {
		for _, h := range allowed {
			f := made(&n, w, h)
			for p := range 3 {
				for _, x := range []int{0, 1, 4, w/2 - 4, w/2 - 1, w / 2, w - 4, w - 3, w - 1, w, 63, 64} {
					for _, y := range []int{0, 1, 4, h/2 - 4, h/2 - 1, h / 2, h - 4, h - 3, h - 1, h, 63, 64} {
						right(t, f, p, x, y)
					}
				}
			}
		}
	}
}

// P8.1: at x 0 left is 128 each, at y 0 above is; one beside that is a sample again.
func TestRim(t *testing.T) {
	f := of(16, 16, 9)
	for p := range 3 {
		for _, c := range []struct{ x, y, mode, want int }{
			{0, 0, api.MMean, 128}, {0, 0, api.MDown, 128}, {0, 0, api.MRight, 128}, {0, 0, api.MSlant, 128},
			{0, 1, api.MMean, 69}, {0, 1, api.MDown, 9}, {0, 1, api.MRight, 128}, {0, 1, api.MSlant, 69},
			{1, 0, api.MMean, 69}, {1, 0, api.MDown, 128}, {1, 0, api.MRight, 9}, {1, 0, api.MSlant, 69},
			{1, 1, api.MMean, 9}, {1, 1, api.MDown, 9}, {1, 1, api.MRight, 9}, {1, 1, api.MSlant, 9},
			{0, 64, api.MDown, 9}, {0, 64, api.MRight, 128}, {64, 0, api.MDown, 128}, {64, 0, api.MRight, 9},
			{64, 64, api.MMean, 9}, {64, 64, api.MSlant, 9},
		} {
			if b, e := Predict(f, p, c.x, c.y, c.mode); b != even(c.want) || e != api.OK {
				t.Errorf("plane %d: %v: %v, %v", p, c, b, e)
			}
		}
	}
}

// P8.1: a block that goes beyond the edge has the nearest samples above it, and left of it.
func TestBeyond(t *testing.T) {
	f := of(8, 8, 0)
	for i := range 8 {
		f.Planes[0][3*8+i] = byte(10 + i)
		f.Planes[0][i*8+3] = byte(50 + i)
	}
	for _, c := range []struct {
		x, y, mode int
		want       [4]int
	}{
		{6, 4, api.MDown, [4]int{16, 17, 17, 17}}, {7, 4, api.MDown, [4]int{17, 17, 17, 17}}, {8, 4, api.MDown, [4]int{17, 17, 17, 17}}, {64, 4, api.MDown, [4]int{17, 17, 17, 17}}, {5, 4, api.MDown, [4]int{15, 16, 17, 17}}, {4, 4, api.MDown, [4]int{14, 15, 16, 17}},
		{4, 6, api.MRight, [4]int{56, 57, 57, 57}}, {4, 7, api.MRight, [4]int{57, 57, 57, 57}}, {4, 8, api.MRight, [4]int{57, 57, 57, 57}}, {4, 64, api.MRight, [4]int{57, 57, 57, 57}}, {4, 5, api.MRight, [4]int{55, 56, 57, 57}}, {4, 4, api.MRight, [4]int{54, 55, 56, 57}},
	} {
		b, e := Predict(f, 0, c.x, c.y, c.mode)
		for i, n := range b {
			k := i % 4
			if c.mode == api.MRight {
				k = i / 4
			}
			if n != c.want[k] || e != api.OK {
				t.Fatalf("%v: %v, %v", c, b, e)
			}
		}
	}
}

// edged is a frame of 8 by 8 whose block at 4, 4 has these samples above it, and these left of it, and that is full of another one elsewhere.
func edged(above, left [4]byte) api.Frame {
	f := of(8, 8, 201)
	for k := range 4 {
		f.Planes[0][3*8+4+k] = above[k]
		f.Planes[0][(4+k)*8+3] = left[k]
	}
	return f
}

// P8.1: means that do not divide evenly: from half of eight on a sum goes up; each of the eight counts.
func TestMeans(t *testing.T) {
	for sum := range 65 {
		for begin := range 8 {
			var eight [8]byte
			for i := range sum {
				eight[(begin+i)%8]++
			}
			b, e := Predict(edged([4]byte(eight[:4]), [4]byte(eight[4:])), 0, 4, 4, api.MMean)
			if want := (sum + 4) / 8; b != even(want) || e != api.OK {
				t.Fatalf("%v: %v, %v; not %d", eight, b, e, want)
			}
		}
	}
}

// P8.1: each two samples' half, which goes up where it does not divide evenly.
func TestSlants(t *testing.T) {
	for a := range 256 {
		for l := range 256 {
			b, e := Predict(edged([4]byte{byte(a), 0, 255, 1}, [4]byte{byte(l), 255, 0, 1}), 0, 4, 4, api.MSlant)
			want := (a + l) / 2
			if (a+l)%2 == 1 {
				want++
			}
			if b[0] != want || b[1] != (l+1)/2 || b[4] != (a+256)/2 || b[15] != 1 || b[5] != 128 || b[6] != 255 || b[9] != 0 || e != api.OK {
				t.Fatalf("%d, %d: %v, %v", a, l, b, e)
			}
		}
	}
}

// P8.3: at the brightest, and the darkest, no prediction goes beyond.
func TestSamples(t *testing.T) {
	for _, sample := range []byte{0, 1, 127, 128, 129, 254, 255} {
		f := of(16, 8, sample)
		for p := range 3 {
			for x := range 65 {
				for y := range 65 {
					right(t, f, p, x, y)
				}
			}
			for mode := range 4 {
				if b, e := Predict(f, p, 4, 4, mode); b != even(int(sample)) || e != api.OK {
					t.Errorf("%d, mode %d: %v, %v", sample, mode, b, e)
				}
			}
		}
	}
}

// P8.1: a prediction hangs on nothing but the eight samples: not on what is at the corner, or in the block itself, and not on the other planes.
func TestNothingElse(t *testing.T) {
	n := numbers(22)
	for p := range 3 {
		f := made(&n, 16, 16)
		g := made(&n, 16, 16)
		w := 16
		if p > 0 {
			w = 8
		}
		for k := range 4 {
			g.Planes[p][3*w+4+k] = f.Planes[p][3*w+4+k]
			g.Planes[p][(4+k)*w+3] = f.Planes[p][(4+k)*w+3]
		}
		for mode := range 4 {
			a, _ := Predict(f, p, 4, 4, mode)
			if b, e := Predict(g, p, 4, 4, mode); b != a || e != api.OK {
				t.Errorf("plane %d, mode %d: %v, %v", p, mode, a, b)
			}
		}
	}
}
