package plane

import (
	"bytes"
	"math"
	"testing"

	"clapboard/api"
)

// numbers are numbers one behind the other that look like chance, and are the same in each run.
type numbers uint64

func (n *numbers) next() uint64 {
	*n = *n*6364136223846793005 + 1442695040888963407
	return uint64(*n >> 11)
}

// below is a number from 0 to m - 1.
func (n *numbers) below(m int) int { return int(n.next() % uint64(m)) }

// far are numbers that no place and no sample has, both ends of an int among them.
var far = []int{
	math.MinInt, math.MinInt + 1, math.MinInt + 3, math.MinInt + 4, math.MinInt64/2 - 1, math.MinInt32 - 1, math.MinInt32, -1 << 32, -1 << 16, -1000, -256,
	256, 1000, 1 << 16, 1 << 31, 1 << 32, 1<<32 + 3, math.MaxInt32, math.MaxInt32 + 1, math.MaxInt64/2 + 1, math.MaxInt - 4, math.MaxInt - 3, math.MaxInt - 1, math.MaxInt,
}

// noPlanes are numbers of planes that no frame has.
var noPlanes = append([]int{-4, -3, -2, -1, 3, 4, 5, 6}, far...)

// allowed are the sides that a frame may have.
var allowed = []int{8, 16, 24, 32, 40, 48, 56, 64}

// made is a frame whose samples look like chance, made by hand.
func made(n *numbers, w, h int) api.Frame {
	f := api.Frame{W: w, H: h, Planes: [3][]byte{make([]byte, w*h), make([]byte, w*h/4), make([]byte, w*h/4)}}
	for _, samples := range f.Planes {
		for i := range samples {
			samples[i] = byte(n.next())
		}
	}
	return f
}

// same tells whether two frames have the same sides and samples.
func same(a, b api.Frame) bool {
	return a.W == b.W && a.H == b.H && bytes.Equal(a.Planes[0], b.Planes[0]) && bytes.Equal(a.Planes[1], b.Planes[1]) && bytes.Equal(a.Planes[2], b.Planes[2])
}

// empty tells whether a frame is one without anything.
func empty(f api.Frame) bool { return same(f, api.Frame{}) }

// kept is f as it is now, made by hand.
func kept(f api.Frame) api.Frame {
	for p := range f.Planes {
		f.Planes[p] = append([]byte(nil), f.Planes[p]...)
	}
	return f
}

// wide and high are the sides of a plane, by the chapter's words.
func wide(f api.Frame, p int) int { return f.W / (1 + min(p, 1)) }
func high(f api.Frame, p int) int { return f.H / (1 + min(p, 1)) }

// wrong are frames that may not be, each wrong in one way.
func wrong() map[string]api.Frame {
	n := numbers(70)
	of := func(change func(f *api.Frame)) api.Frame {
		f := made(&n, 16, 24)
		change(&f)
		return f
	}
	return map[string]api.Frame{
		"nothing":          {},
		"no planes":        {W: 16, H: 24},
		"no sides":         of(func(f *api.Frame) { f.W, f.H = 0, 0 }),
		"no width":         of(func(f *api.Frame) { f.W = 0 }),
		"no height":        of(func(f *api.Frame) { f.H = 0 }),
		"below 0":          of(func(f *api.Frame) { f.W, f.H = -16, -24 }),
		"sides of another": of(func(f *api.Frame) { f.W, f.H = 16, 32 }),
		"wrapped round":    of(func(f *api.Frame) { f.W, f.H = 1<<32, 1<<32 }),
		"nothing, wrapped": {W: 1 << 32, H: 1 << 32},
		"the least":        {W: math.MinInt, H: math.MinInt},
		"first nil":        of(func(f *api.Frame) { f.Planes[0] = nil }),
		"second nil":       of(func(f *api.Frame) { f.Planes[1] = nil }),
		"third nil":        of(func(f *api.Frame) { f.Planes[2] = nil }),
		"first short":      of(func(f *api.Frame) { f.Planes[0] = f.Planes[0][:16*24-1] }),
		"second short":     of(func(f *api.Frame) { f.Planes[1] = f.Planes[1][:8*12-1] }),
		"third short":      of(func(f *api.Frame) { f.Planes[2] = f.Planes[2][:8*12-1] }),
		"first long":       of(func(f *api.Frame) { f.Planes[0] = append(f.Planes[0], 1) }),
		"second long":      of(func(f *api.Frame) { f.Planes[1] = append(f.Planes[1], 1) }),
		"third long":       of(func(f *api.Frame) { f.Planes[2] = append(f.Planes[2], 1) }),
		"all of one size":  of(func(f *api.Frame) { f.Planes[1], f.Planes[2] = f.Planes[0], f.Planes[0] }),
		"planes turned":    of(func(f *api.Frame) { f.Planes[0], f.Planes[2] = f.Planes[2], f.Planes[0] }),
	}
}

// may tells whether a side may be, by the chapter's words.
func may(n int) bool {
	for _, a := range allowed {
		if n == a {
			return true
		}
	}
	return false
}

// P7.1: New makes frames of all sides that may be, and of no others; Check tells them likewise, if a frame has the samples that its sides ask for.
func TestSides(t *testing.T) {
	for w := -9; w <= 137; w++ {
		for h := -9; h <= 137; h++ {
			f, e := New(w, h, 3)
			if !may(w) || !may(h) {
				if e != api.ErrPlane || !empty(f) {
					t.Fatalf("New(%d, %d): %v, %v", w, h, f, e)
				}
				if g := laidOut(w, h); Check(g) != api.ErrPlane {
					t.Fatalf("Check of %d, %d", w, h)
				}
				continue
			}
			if e != api.OK || f.W != w || f.H != h || len(f.Planes[0]) != w*h || len(f.Planes[1]) != w*h/4 || len(f.Planes[2]) != w*h/4 || Check(f) != api.OK {
				t.Fatalf("New(%d, %d): %v", w, h, e)
			}
		}
	}
}

// laidOut is a frame of any sides, with as many samples as they ask for.
func laidOut(w, h int) api.Frame {
	n := max(0, w*h)
	return api.Frame{W: w, H: h, Planes: [3][]byte{make([]byte, n), make([]byte, n/4), make([]byte, n/4)}}
}

// P7.1, R1: sides that are far from all that may be.
func TestFarSides(t *testing.T) {
	for _, n := range far {
		for _, m := range append([]int{0, 8, 64}, far...) {
			for _, c := range [][2]int{{n, m}, {m, n}} {
				if f, e := New(c[0], c[1], 5); e != api.ErrPlane || !empty(f) {
					t.Errorf("New(%d, %d): %v, %v", c[0], c[1], f, e)
				}
				if e := Check(api.Frame{W: c[0], H: c[1]}); e != api.ErrPlane {
					t.Errorf("Check of %d, %d: %v", c[0], c[1], e)
				}
			}
		}
	}
}

// P7.1: each sample is everywhere in the frame that New makes of it.
func TestNewSamples(t *testing.T) {
	for sample := range 256 {
		f, e := New(16, 24, byte(sample))
		if e != api.OK {
			t.Fatalf("%d: %v", sample, e)
		}
		for p, samples := range f.Planes {
			for i, n := range samples {
				if int(n) != sample {
					t.Fatalf("%d: plane %d has %d at %d", sample, p, n, i)
				}
			}
		}
	}
}

// P7.1: frames with as many samples as their sides ask for may be, of whatever samples.
func TestCheckRight(t *testing.T) {
	n := numbers(1)
	for _, w := range allowed {
		for _, h := range allowed {
			if e := Check(made(&n, w, h)); e != api.OK {
				t.Errorf("%d, %d: %v", w, h, e)
			}
		}
	}
}

// P7.1: a plane that is a sample too short, or too long, is found, each of the three, of all sides.
func TestCheckLengths(t *testing.T) {
	n := numbers(2)
	for _, w := range allowed {
		for _, h := range allowed {
			for p := range 3 {
				f := made(&n, w, h)
				all := f.Planes[p]
				for _, samples := range [][]byte{all[:len(all)-1], append(kept(f).Planes[p], 0), nil, all[:0], append(kept(f).Planes[p], all...)} {
					f.Planes[p] = samples
					if e := Check(f); e != api.ErrPlane {
						t.Errorf("%d, %d: plane %d of %d: %v", w, h, p, len(samples), e)
					}
				}
				f.Planes[p] = all
				if e := Check(f); e != api.OK {
					t.Errorf("%d, %d: %v", w, h, e)
				}
			}
		}
	}
}

// P7.1: of frames that may not be each call answers 0, or an empty one; Far -1 (P7.3), on either side.
func TestWrongFrames(t *testing.T) {
	n := numbers(3)
	right := made(&n, 16, 24)
	for name, f := range wrong() {
		if e := Check(f); e != api.ErrPlane {
			t.Errorf("%s: Check: %v", name, e)
		}
		for _, p := range append([]int{0, 1, 2}, noPlanes...) {
			if w, h := Size(f, p); w != 0 || h != 0 {
				t.Errorf("%s: Size of %d: %d, %d", name, p, w, h)
			}
			for _, at := range append([]int{-1, 0, 1, 7, 15}, far...) {
				if s := At(f, p, at, 0) + At(f, p, 0, at) + At(f, p, at, at); s != 0 {
					t.Errorf("%s: At %d: %d", name, at, s)
				}
				if b := Get(f, p, at, at); b != (api.Block{}) {
					t.Errorf("%s: Get at %d: %v", name, at, b)
				}
				if g := Put(f, p, at, at, api.Block{1, 2, 3}); !empty(g) {
					t.Errorf("%s: Put at %d: %v", name, at, g)
				}
			}
		}
		if g := Copy(f); !empty(g) {
			t.Errorf("%s: Copy: %v", name, g)
		}
		if Far(f, right) != -1 || Far(right, f) != -1 || Far(f, f) != -1 {
			t.Errorf("%s: Far: %d, %d, %d", name, Far(f, right), Far(right, f), Far(f, f))
		}
	}
}

// P7.1 to P7.3: the chapter's examples.
func TestExamples(t *testing.T) {
	f, e := New(8, 8, 7)
	if e != api.OK || At(f, 0, -3, 99) != 7 {
		t.Errorf("%v, %d", e, At(f, 0, -3, 99))
	}
	if w, h := Size(f, 1); w != 4 || h != 4 {
		t.Errorf("%d, %d", w, h)
	}
	g, _ := New(8, 8, 9)
	if Far(f, g) != 2 {
		t.Errorf("%d", Far(f, g))
	}
}

// R5: a frame's spare room, and calls ahead, change no answer.
func TestRepeats(t *testing.T) {
	n := numbers(4)
	f := made(&n, 24, 16)
	roomy := kept(f)
	for p := range roomy.Planes {
		roomy.Planes[p] = append(make([]byte, 0, 9999), roomy.Planes[p]...)
	}
	b := api.Block{-1, 5, 300, 7}
	for range 3 {
		if Check(roomy) != api.OK || Get(roomy, 1, 3, 3) != Get(f, 1, 3, 3) || !same(Put(roomy, 1, 3, 3, b), Put(f, 1, 3, 3, b)) || !same(Copy(roomy), f) || Far(roomy, f) != 0 {
			t.Fatal("an answer is another one")
		}
	}
}
