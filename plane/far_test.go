package plane

import (
	"testing"
)

// P7.3: one sample alone tells how far two frames are apart, in each plane, at each place, by either sign.
func TestFarOne(t *testing.T) {
	n := numbers(30)
	f := made(&n, 16, 8)
	for p := range 3 {
		for i := range f.Planes[p] {
			g := kept(f)
			g.Planes[p][i] = byte(n.next())
			want := int(g.Planes[p][i]) - int(f.Planes[p][i])
			want = max(want, -want)
			if Far(f, g) != want || Far(g, f) != want {
				t.Fatalf("plane %d, %d: %d and %d, not %d", p, i, Far(f, g), Far(g, f), want)
			}
		}
	}
}

// P7.3: all differences that there are, 255 and 0 among them.
func TestFarAll(t *testing.T) {
	for a := range 256 {
		f, _ := New(8, 8, byte(a))
		for b := range 256 {
			g, _ := New(8, 8, byte(b))
			if d := Far(f, g); d != max(a-b, b-a) {
				t.Fatalf("%d and %d: %d", a, b, d)
			}
		}
	}
}

// P7.3: the greatest difference is told, whichever plane has it, and whichever sign.
func TestFarGreatest(t *testing.T) {
	for p := range 3 {
		for _, to := range []byte{0, 255} {
			f, _ := New(24, 16, 128)
			g, _ := New(24, 16, 128)
			for q := range 3 {
				g.Planes[q][1], g.Planes[q][2], g.Planes[q][3] = 126, 130, 127
			}
			g.Planes[p][5] = to
			want := max(int(to)-128, 128-int(to))
			if Far(f, g) != want || Far(g, f) != want {
				t.Errorf("plane %d, %d: %d and %d", p, to, Far(f, g), Far(g, f))
			}
		}
	}
}

// P7.3: frames of like samples are 0 apart; those of unlike sizes -1, of as many samples too.
func TestFarSizes(t *testing.T) {
	for _, w := range allowed {
		for _, h := range allowed {
			f, _ := New(w, h, 5)
			for _, v := range allowed {
				for _, k := range allowed {
					g, _ := New(v, k, 5)
					want := -1
					if w == v && h == k {
						want = 0
					}
					if d := Far(f, g); d != want {
						t.Fatalf("%d, %d and %d, %d: %d", w, h, v, k, d)
					}
				}
			}
		}
	}
}
