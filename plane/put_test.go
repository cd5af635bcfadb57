package plane

import (
	"bytes"
	"math"
	"testing"

	"clapboard/api"
)

// mixed is a block of numbers that look like chance: samples, a little outside, and far away.
func mixed(n *numbers) api.Block {
	var b api.Block
	for i := range b {
		switch n.below(4) {
		case 0:
			b[i] = far[n.below(len(far))]
		case 1:
			b[i] = n.below(700) - 200
		default:
			b[i] = n.below(256)
		}
	}
	return b
}

// laid is Put, by the chapter's words: each place of the plane is held against what the block covers.
func laid(f api.Frame, p, x, y int, b api.Block) api.Frame {
	g := kept(f)
	x, y = ahead(x), ahead(y)
	w := wide(f, p)
	for at := range g.Planes[p] {
		k, i := at%w-x, at/w-y
		if k >= 0 && k < 4 && i >= 0 && i < 4 {
			g.Planes[p][at] = byte(held(b[4*i+k], 255))
		}
	}
	return g
}

// P7.2, P7.4: blocks that are laid within, partly outside on each side and corner, and wholly outside, change just the places that they cover.
func TestPut(t *testing.T) {
	n := numbers(20)
	for _, c := range [][2]int{{8, 8}, {8, 24}, {64, 8}, {16, 24}, {64, 64}} {
		f := made(&n, c[0], c[1])
		before := kept(f)
		for p := range 3 {
			for _, x := range places(wide(f, p)) {
				for _, y := range places(high(f, p)) {
					b := mixed(&n)
					if g := Put(f, p, x, y, b); !same(g, laid(f, p, x, y, b)) {
						t.Fatalf("%v: Put(%d, %d, %d, %v)", c, p, x, y, b)
					}
				}
			}
		}
		if !same(f, before) {
			t.Fatal("what is handed in is another one")
		}
	}
}

// P7.2: numbers that are no samples are laid as the nearest one.
func TestPutClamps(t *testing.T) {
	f, _ := New(8, 8, 100)
	for i, c := range []struct{ n, sample int }{
		{-1, 0}, {0, 0}, {1, 1}, {127, 127}, {128, 128}, {254, 254}, {255, 255}, {256, 255}, {257, 255}, {511, 255}, {512, 255}, {-255, 0}, {-256, 0}, {-257, 0},
		{1 << 20, 255}, {-1 << 20, 0}, {1 << 32, 255}, {-1 << 32, 0}, {1<<32 + 5, 255}, {math.MaxInt, 255}, {math.MinInt, 0}, {math.MaxInt - 1, 255}, {math.MinInt + 1, 0},
	} {
		for at := range 16 {
			var b api.Block
			b[at] = c.n
			g := Put(f, 0, 4, 0, b)
			if s := At(g, 0, 4+at%4, at/4); s != c.sample {
				t.Errorf("%d: %d is laid as %d", i, c.n, s)
			}
		}
	}
}

// P7.2: a block that is laid on a plane that there isn't covers nothing.
func TestPutNoPlane(t *testing.T) {
	n := numbers(21)
	f := made(&n, 16, 8)
	for _, p := range noPlanes {
		for _, x := range []int{-1, 0, 3, 8, math.MinInt, math.MaxInt} {
			if g := Put(f, p, x, x, mixed(&n)); !same(g, f) {
				t.Errorf("plane %d, at %d", p, x)
			}
		}
	}
}

// P7.4: what is laid is got; what is got and laid where it was changes nothing.
func TestLaidIsGot(t *testing.T) {
	n := numbers(22)
	for _, c := range [][2]int{{8, 8}, {24, 16}, {64, 64}} {
		f := made(&n, c[0], c[1])
		for p := range 3 {
			for y := 0; y <= high(f, p)-4; y++ {
				for x := 0; x <= wide(f, p)-4; x++ {
					var b api.Block
					for i := range b {
						b[i] = n.below(256)
					}
					if Get(Put(f, p, x, y, b), p, x, y) != b {
						t.Fatalf("%v: %d, %d, %d: what is laid isn't got", c, p, x, y)
					}
					if !same(Put(f, p, x, y, Get(f, p, x, y)), f) {
						t.Fatalf("%v: %d, %d, %d: what was there is another", c, p, x, y)
					}
				}
			}
		}
	}
}

// P7.4: a frame is made anew of its blocks alone.
func TestAllBlocks(t *testing.T) {
	n := numbers(23)
	for _, c := range [][2]int{{8, 8}, {16, 40}, {64, 64}} {
		f := made(&n, c[0], c[1])
		g, _ := New(c[0], c[1], 0)
		for p := range 3 {
			for y := 0; y < high(f, p); y += 4 {
				for x := 0; x < wide(f, p); x += 4 {
					g = Put(g, p, x, y, Get(f, p, x, y))
				}
			}
		}
		if !same(f, g) {
			t.Errorf("%v: another frame", c)
		}
	}
}

// P7.2: Copy is f.
func TestCopy(t *testing.T) {
	n := numbers(24)
	for _, w := range allowed {
		for _, h := range allowed {
			f := made(&n, w, h)
			before := kept(f)
			if g := Copy(f); !same(g, before) || !same(f, before) {
				t.Errorf("%d, %d: another frame", w, h)
			}
		}
	}
}

// scribble writes into all samples of f, and into its spare room.
func scribble(f api.Frame) {
	for _, samples := range f.Planes {
		all := samples[:cap(samples)]
		for i := range all {
			all[i] ^= 0xA5
		}
	}
}

// R4: what is laid, and what is copied, is in memory of its own, spare room too: what is written into the one leaves the other as it was.
func TestOwnMemory(t *testing.T) {
	n := numbers(25)
	for name, call := range map[string]func(f api.Frame) api.Frame{
		"copy":            Copy,
		"put":             func(f api.Frame) api.Frame { return Put(f, 0, 3, 3, api.Block{}) },
		"put beside":      func(f api.Frame) api.Frame { return Put(f, 1, -64, 99, api.Block{}) },
		"put on no plane": func(f api.Frame) api.Frame { return Put(f, 3, 0, 0, api.Block{}) },
	} {
		f := made(&n, 16, 16)
		g := call(f)
		before := kept(g)
		scribble(f)
		if !same(g, before) {
			t.Errorf("%s: the answer hangs on what was handed in", name)
		}
		before = kept(f)
		scribble(g)
		if !same(f, before) {
			t.Errorf("%s: what was handed in hangs on the answer", name)
		}
	}
}

// R4: the planes of one answer share nothing with each other, nor do two answers.
func TestApart(t *testing.T) {
	n := numbers(26)
	f := made(&n, 16, 16)
	for name, call := range map[string]func() api.Frame{
		"new":  func() api.Frame { g, _ := New(16, 16, 7); return g },
		"copy": func() api.Frame { return Copy(f) },
		"put":  func() api.Frame { return Put(f, 2, 1, 1, api.Block{}) },
	} {
		for p := range 3 {
			g, h := call(), call()
			before := kept(g)
			scribble(api.Frame{Planes: [3][]byte{g.Planes[p]}})
			for q := range 3 {
				if q != p && !bytes.Equal(g.Planes[q], before.Planes[q]) {
					t.Errorf("%s: planes %d and %d share memory", name, p, q)
				}
			}
			if !same(h, before) || !same(call(), before) {
				t.Errorf("%s: two answers share memory", name)
			}
		}
	}
}

// R4: the spare room of what is handed in stays as it was, and a frame whose planes share memory is read, not changed.
func TestSpareRoom(t *testing.T) {
	all := make([]byte, 400)
	for i := range all {
		all[i] = byte(i)
	}
	before := bytes.Clone(all)
	f := api.Frame{W: 8, H: 8, Planes: [3][]byte{all[:64], all[32:48], all[40:56]}}
	g, _ := New(8, 8, 9)
	for p := range 3 {
		for _, x := range []int{-3, 0, 3, 6} {
			Get(f, p, x, 6)
			Put(f, p, x, 6, api.Block{255, 255, 255, 255, 255, 255, 255, 255})
		}
	}
	Copy(f)
	Far(f, g)
	if !bytes.Equal(all, before) {
		t.Error("what is handed in, or its spare room, is another one")
	}
}
