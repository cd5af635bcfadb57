package intra

import (
	"bytes"
	"math"
	"testing"

	"clapboard/api"
)

// numbers are numbers one behind the other that look like chance, and are the same in each run.
type numbers uint64

func (n *numbers) next() uint64 {
	*n = *n*6364136223846793005 + 1442695040888963407
	return uint64(*n >> 11)
}

// below is a number from 0 to m - 1.
func (n *numbers) below(m int) int { return int(n.next() % uint64(m)) }

// far are numbers that no plane, no place and no mode has, both ends of an int among them.
var far = []int{
	math.MinInt, math.MinInt + 1, math.MinInt + 3, math.MinInt + 4, math.MinInt64/2 - 1, math.MinInt32 - 1, math.MinInt32, -1 << 32, -1 << 16, -1000, -256,
	256, 1000, 1 << 16, 1 << 31, 1 << 32, 1<<32 + 3, math.MaxInt32, math.MaxInt32 + 1, math.MaxInt64/2 + 1, math.MaxInt - 4, math.MaxInt - 3, math.MaxInt - 1, math.MaxInt,
}

// noPlanes, noPlaces and noModes are numbers that none of them has; of modes those between pictures, too.
var (
	noPlanes = append([]int{-4, -3, -2, -1, 3, 4, 5, 6}, far...)
	noPlaces = append([]int{-65, -64, -8, -4, -2, -1, 65, 66, 68, 72, 127, 128, 129}, far...)
	noModes  = append([]int{-4, -3, -2, -1, 4, 5, 6, 7, 8}, far...)
)

// allowed are the sides that a frame may have.
var allowed = []int{8, 16, 24, 32, 40, 48, 56, 64}

// made is a frame whose samples look like chance, made by hand.
func made(n *numbers, w, h int) api.Frame {
	f := api.Frame{W: w, H: h, Planes: [3][]byte{make([]byte, w*h), make([]byte, w*h/4), make([]byte, w*h/4)}}
	for _, samples := range f.Planes {
		for i := range samples {
			samples[i] = byte(n.next())
		}
	}
	return f
}

// of is a frame of one sample everywhere, made by hand.
func of(w, h int, sample byte) api.Frame {
	one := bytes.Repeat([]byte{sample}, w*h)
	return api.Frame{W: w, H: h, Planes: [3][]byte{one, bytes.Clone(one[:w*h/4]), bytes.Clone(one[:w*h/4])}}
}

// even is a block of one number.
func even(n int) api.Block {
	var b api.Block
	for i := range b {
		b[i] = n
	}
	return b
}

// same tells whether two frames have the same sides and samples.
func same(a, b api.Frame) bool {
	return a.W == b.W && a.H == b.H && bytes.Equal(a.Planes[0], b.Planes[0]) && bytes.Equal(a.Planes[1], b.Planes[1]) && bytes.Equal(a.Planes[2], b.Planes[2])
}

// kept is f as it is now, its spare room included.
func kept(f api.Frame) api.Frame {
	for p, samples := range f.Planes {
		f.Planes[p] = append([]byte(nil), samples[:cap(samples)]...)[:len(samples)]
	}
	return f
}

// wrong are frames that may not be, each wrong in one way.
func wrong() map[string]api.Frame {
	n := numbers(80)
	of := func(change func(f *api.Frame)) api.Frame {
		f := made(&n, 16, 24)
		change(&f)
		return f
	}
	return map[string]api.Frame{
		"nothing":          {},
		"no planes":        {W: 16, H: 24},
		"no sides":         of(func(f *api.Frame) { f.W, f.H = 0, 0 }),
		"no width":         of(func(f *api.Frame) { f.W = 0 }),
		"no height":        of(func(f *api.Frame) { f.H = 0 }),
		"below 0":          of(func(f *api.Frame) { f.W, f.H = -16, -24 }),
		"sides of another": of(func(f *api.Frame) { f.W, f.H = 16, 32 }),
		"no multiples":     of(func(f *api.Frame) { f.W, f.H = 12, 32 }),
		"too wide":         {W: 72, H: 8, Planes: [3][]byte{make([]byte, 576), make([]byte, 144), make([]byte, 144)}},
		"too high":         {W: 8, H: 72, Planes: [3][]byte{make([]byte, 576), make([]byte, 144), make([]byte, 144)}},
		"wrapped round":    {W: 1 << 32, H: 1 << 32},
		"the least":        {W: math.MinInt, H: math.MinInt},
		"the greatest":     {W: math.MaxInt, H: math.MaxInt},
		"first nil":        of(func(f *api.Frame) { f.Planes[0] = nil }),
		"second nil":       of(func(f *api.Frame) { f.Planes[1] = nil }),
		"third nil":        of(func(f *api.Frame) { f.Planes[2] = nil }),
		"first short":      of(func(f *api.Frame) { f.Planes[0] = f.Planes[0][:16*24-1] }),
		"second short":     of(func(f *api.Frame) { f.Planes[1] = f.Planes[1][:8*12-1] }),
		"third short":      of(func(f *api.Frame) { f.Planes[2] = f.Planes[2][:8*12-1] }),
		"first long":       of(func(f *api.Frame) { f.Planes[0] = append(f.Planes[0], 1) }),
		"second long":      of(func(f *api.Frame) { f.Planes[1] = append(f.Planes[1], 1) }),
		"third long":       of(func(f *api.Frame) { f.Planes[2] = append(f.Planes[2], 1) }),
	}
}

// fails holds a call that must fail to its error, and to nothing beside it; Best, of whatever mode, tells -1 and -1 if it is the frame, the plane or the place that is wrong.
func fails(t *testing.T, name string, f api.Frame, p, x, y, mode int, want api.Errno) {
	t.Helper()
	if b, e := Predict(f, p, x, y, mode); e != want || b != (api.Block{}) {
		t.Errorf("%s: Predict(%d, %d, %d, %d): %v, %v", name, p, x, y, mode, b, e)
	}
	if want != api.ErrPlane {
		return
	}
	if m, n := Best(f, p, x, y, even(128)); m != -1 || n != -1 {
		t.Errorf("%s: Best(%d, %d, %d): %d, %d", name, p, x, y, m, n)
	}
}

// P8.1, P8.2: frames that may not be.
func TestWrongFrames(t *testing.T) {
	for name, f := range wrong() {
		for p := range 3 {
			for _, at := range []int{0, 1, 4, 64} {
				for mode := range 4 {
					fails(t, name, f, p, at, 4, mode, api.ErrPlane)
					fails(t, name, f, p, 4, at, mode, api.ErrPlane)
				}
			}
		}
	}
}

// P8.1, P8.2: planes that there aren't.
func TestWrongPlanes(t *testing.T) {
	n := numbers(1)
	f := made(&n, 16, 24)
	for _, p := range noPlanes {
		for mode := range 4 {
			fails(t, "plane", f, p, 4, 4, mode, api.ErrPlane)
			fails(t, "plane", f, p, 0, 0, mode, api.ErrPlane)
		}
	}
}

// P8.1, P8.2: places that may not be, one way, the other, and both.
func TestWrongPlaces(t *testing.T) {
	n := numbers(2)
	f := made(&n, 64, 64)
	for p := range 3 {
		for mode := range 4 {
			for _, at := range noPlaces {
				for _, right := range []int{0, 1, 4, 31, 64} {
					fails(t, "x", f, p, at, right, mode, api.ErrPlane)
					fails(t, "y", f, p, right, at, mode, api.ErrPlane)
				}
				for _, other := range noPlaces {
					fails(t, "both", f, p, at, other, mode, api.ErrPlane)
				}
			}
		}
	}
}

// P8.1: modes that there aren't, at places that may be, to the last one; those between two pictures are none here.
func TestWrongModes(t *testing.T) {
	n := numbers(3)
	f := made(&n, 24, 8)
	for _, mode := range noModes {
		for p := range 3 {
			for _, at := range []int{0, 1, 4, 63, 64} {
				fails(t, "mode", f, p, at, at, mode, api.ErrIntra)
				fails(t, "mode", f, p, at, 0, mode, api.ErrIntra)
				fails(t, "mode", f, p, 0, at, mode, api.ErrIntra)
			}
		}
	}
}

// P8.1, R2: where the mode is wrong, and something else too, the error is that of the plane.
func TestErrorsInOrder(t *testing.T) {
	n := numbers(4)
	f := made(&n, 16, 24)
	for _, mode := range noModes {
		for name, g := range wrong() {
			fails(t, name, g, 0, 4, 4, mode, api.ErrPlane)
		}
		for _, p := range noPlanes {
			fails(t, "plane", f, p, 4, 4, mode, api.ErrPlane)
		}
		for _, at := range noPlaces {
			fails(t, "x", f, 0, at, 4, mode, api.ErrPlane)
			fails(t, "y", f, 0, 4, at, mode, api.ErrPlane)
		}
	}
}

// P8.1: the chapter's examples.
func TestExamples(t *testing.T) {
	f := of(8, 8, 7)
	for i, c := range []struct {
		x, y, mode, want int
	}{{4, 4, api.MMean, 7}, {0, 0, api.MMean, 128}, {0, 4, api.MDown, 7}} {
		if b, e := Predict(f, 0, c.x, c.y, c.mode); b != even(c.want) || e != api.OK {
			t.Errorf("%d: %v, %v", i, b, e)
		}
	}
}

// R4: what is handed in stays as it was, its spare room included.
func TestStays(t *testing.T) {
	n := numbers(5)
	f := made(&n, 16, 24)
	for p, samples := range f.Planes {
		f.Planes[p] = append(append(make([]byte, 0, len(samples)+9), samples...), 1, 2, 3)[:len(samples)]
	}
	was := kept(f)
	b := api.Block{-5, 300, math.MaxInt, math.MinInt}
	for p := -1; p <= 3; p++ {
		for x := -1; x <= 65; x++ {
			for y := -1; y <= 65; y++ {
				for mode := -1; mode <= 4; mode++ {
					Predict(f, p, x, y, mode)
				}
				Best(f, p, x, y, b)
			}
		}
	}
	if !same(f, was) {
		t.Error("the frame is another one")
	}
	for p, samples := range f.Planes {
		if !bytes.Equal(samples[:cap(samples)], was.Planes[p][:cap(samples)]) {
			t.Errorf("plane %d: its spare room is another one", p)
		}
	}
}

// R5: calls ahead, and a frame's spare room, change no answer.
func TestRepeats(t *testing.T) {
	n := numbers(6)
	f := made(&n, 16, 24)
	roomy := f
	for p := range roomy.Planes {
		roomy.Planes[p] = append(make([]byte, 0, 9999), f.Planes[p]...)
	}
	want, _ := Predict(f, 0, 4, 8, api.MSlant)
	mode, cost := Best(f, 0, 4, 8, even(9))
	for i := range 3 {
		Predict(f, 1, i, 4, i)
		Predict(f, i+2, 4, 4, i+3)
		Best(f, 2, i, i, even(i))
		if b, e := Predict(roomy, 0, 4, 8, api.MSlant); b != want || e != api.OK {
			t.Errorf("%v, %v", b, e)
		}
		if m, c := Best(roomy, 0, 4, 8, even(9)); m != mode || c != cost {
			t.Errorf("%d, %d", m, c)
		}
	}
}
