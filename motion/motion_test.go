package motion

import (
	"bytes"
	"math"
	"slices"
	"testing"

	"clapboard/api"
	"clapboard/plane"
)

// numbers are numbers one behind the other that look like chance, and are the same in each run.
type numbers uint64

func (n *numbers) next() uint64 {
	*n = *n*6364136223846793005 + 1442695040888963407
	return uint64(*n >> 11)
}

// below is a number from 0 to m - 1.
func (n *numbers) below(m int) int { return int(n.next() % uint64(m)) }

// vector is one that may be.
func (n *numbers) vector() api.Vector { return api.Vector{X: n.below(63) - 31, Y: n.below(63) - 31} }

// far are numbers that no plane, no place and no vector has, both ends of an int among them.
var far = []int{
	math.MinInt, math.MinInt + 1, math.MinInt + 2, math.MinInt + 3, math.MinInt64/2 - 1, math.MinInt32 - 1, math.MinInt32, -1 << 32, -1<<32 - 5, -1 << 16, -1000, -257, -256, -255,
	255, 256, 257, 1000, 1 << 16, 1 << 31, 1 << 32, 1<<32 + 3, math.MaxInt32, math.MaxInt32 + 1, math.MaxInt64/2 + 1, math.MaxInt - 3, math.MaxInt - 2, math.MaxInt - 1, math.MaxInt,
}

// noPlanes, noPlaces and noWays are numbers that none of planes, places and vectors has.
var (
	noPlanes = append([]int{-4, -3, -2, -1, 3, 4, 5, 6}, far...)
	noPlaces = append([]int{-65, -64, -8, -4, -2, -1, 65, 66, 68, 72, 127, 128, 129}, far...)
	noWays   = append([]int{-65, -64, -63, -62, -35, -34, -33, -32, 32, 33, 34, 35, 62, 63, 64, 65}, far...)
)

// ways are how far vectors may go, both ends among them.
var ways = []int{-31, -30, -29, -2, -1, 0, 1, 2, 29, 30, 31}

// allowed are the sides that a frame may have.
var allowed = []int{8, 16, 24, 32, 40, 48, 56, 64}

// made is a frame whose samples look like chance, made by hand.
func made(n *numbers, w, h int) api.Frame { return few(n, w, h, 256) }

// few is such a frame of so many samples that are unlike.
func few(n *numbers, w, h, many int) api.Frame {
	f := api.Frame{W: w, H: h, Planes: [3][]byte{make([]byte, w*h), make([]byte, w*h/4), make([]byte, w*h/4)}}
	for _, samples := range f.Planes {
		for i := range samples {
			samples[i] = byte(n.below(many))
		}
	}
	return f
}

// of is a frame of one sample everywhere, made by hand.
func of(w, h int, sample byte) api.Frame {
	one := bytes.Repeat([]byte{sample}, w*h)
	return api.Frame{W: w, H: h, Planes: [3][]byte{one, bytes.Clone(one[:w*h/4]), bytes.Clone(one[:w*h/4])}}
}

// even is a block of one number.
func even(n int) api.Block {
	var b api.Block
	for i := range b {
		b[i] = n
	}
	return b
}

// sides are the sides of the plane p of f.
func sides(f api.Frame, p int) (int, int) {
	if p == 0 {
		return f.W, f.H
	}
	return f.W / 2, f.H / 2
}

// kept is f as it is now, its spare room included.
func kept(f api.Frame) api.Frame {
	for p, samples := range f.Planes {
		f.Planes[p] = append([]byte(nil), samples[:cap(samples)]...)[:len(samples)]
	}
	return f
}

// wrong are frames that may not be, each wrong in one way.
func wrong() map[string]api.Frame {
	n := numbers(90)
	of := func(change func(f *api.Frame)) api.Frame {
		f := made(&n, 16, 24)
		change(&f)
		return f
	}
	return map[string]api.Frame{
		"nothing":          {},
		"no planes":        {W: 16, H: 24},
		"no sides":         of(func(f *api.Frame) { f.W, f.H = 0, 0 }),
		"no width":         of(func(f *api.Frame) { f.W = 0 }),
		"no height":        of(func(f *api.Frame) { f.H = 0 }),
		"below 0":          of(func(f *api.Frame) { f.W, f.H = -16, -24 }),
		"sides of another": of(func(f *api.Frame) { f.W, f.H = 16, 32 }),
		"no multiples":     of(func(f *api.Frame) { f.W, f.H = 12, 32 }),
		"too wide":         {W: 72, H: 8, Planes: [3][]byte{make([]byte, 576), make([]byte, 144), make([]byte, 144)}},
		"too high":         {W: 8, H: 72, Planes: [3][]byte{make([]byte, 576), make([]byte, 144), make([]byte, 144)}},
		"wrapped round":    {W: 1 << 32, H: 1 << 32},
		"the least":        {W: math.MinInt, H: math.MinInt},
		"the greatest":     {W: math.MaxInt, H: math.MaxInt},
		"first nil":        of(func(f *api.Frame) { f.Planes[0] = nil }),
		"second nil":       of(func(f *api.Frame) { f.Planes[1] = nil }),
		"third nil":        of(func(f *api.Frame) { f.Planes[2] = nil }),
		"first short":      of(func(f *api.Frame) { f.Planes[0] = f.Planes[0][:16*24-1] }),
		"second short":     of(func(f *api.Frame) { f.Planes[1] = f.Planes[1][:8*12-1] }),
		"third short":      of(func(f *api.Frame) { f.Planes[2] = f.Planes[2][:8*12-1] }),
		"first long":       of(func(f *api.Frame) { f.Planes[0] = append(f.Planes[0], 1) }),
		"second long":      of(func(f *api.Frame) { f.Planes[1] = append(f.Planes[1], 1) }),
		"third long":       of(func(f *api.Frame) { f.Planes[2] = append(f.Planes[2], 1) }),
	}
}

// fails holds a call that must fail to its error, and to nothing beside it.
func fails(t *testing.T, name string, f api.Frame, p, x, y int, v api.Vector, want api.Errno) {
	t.Helper()
	if b, e := Predict(f, p, x, y, v); e != want || b != (api.Block{}) {
		t.Errorf("%s: Predict(%d, %d, %d, %v): %v, %v", name, p, x, y, v, b, e)
	}
}

// none holds a search to finding no vector.
func none(t *testing.T, name string, f api.Frame, p, x, y int, b api.Block, about api.Vector) {
	t.Helper()
	if v, n := Search(f, p, x, y, b, about); v != (api.Vector{}) || n != -1 {
		t.Errorf("%s: Search(%d, %d, %d, %v): %v, %d", name, p, x, y, about, v, n)
	}
}

// P9.1: vectors whose X, and whose Y, are at, near to and beyond both ends.
func TestCheck(t *testing.T) {
	for _, c := range []struct {
		n    int
		want api.Errno
	}{{math.MinInt, api.ErrVector}, {-33, api.ErrVector}, {-32, api.ErrVector}, {-31, api.OK}, {-30, api.OK}, {-1, api.OK}, {0, api.OK}, {1, api.OK}, {30, api.OK}, {31, api.OK}, {32, api.ErrVector}, {33, api.ErrVector}, {math.MaxInt, api.ErrVector}} {
		for _, other := range ways {
			if e := Check(api.Vector{X: c.n, Y: other}); e != c.want {
				t.Errorf("X %d, Y %d: %v", c.n, other, e)
			}
			if e := Check(api.Vector{X: other, Y: c.n}); e != c.want {
				t.Errorf("X %d, Y %d: %v", other, c.n, e)
			}
		}
	}
}

// P9.1: each vector near to those that may be, and such as go far, one way or both.
func TestCheckEverywhere(t *testing.T) {
	may := 0
	for x := -70; x <= 70; x++ {
		for y := -70; y <= 70; y++ {
			e := Check(api.Vector{X: x, Y: y})
			if e == api.OK {
				may++
			}
			if inside := x > -32 && x < 32 && y > -32 && y < 32; inside != (e == api.OK) || !inside && e != api.ErrVector {
				t.Errorf("%d, %d: %v", x, y, e)
			}
		}
	}
	if may != 63*63 {
		t.Errorf("%d may be", may)
	}
	for _, n := range noWays {
		for _, m := range slices.Concat(ways, noWays) {
			if Check(api.Vector{X: n, Y: m}) != api.ErrVector || Check(api.Vector{X: m, Y: n}) != api.ErrVector {
				t.Errorf("%d, %d: may be", n, m)
			}
		}
	}
}

// P9.2, P9.3, P9.4: frames that may not be.
func TestWrongFrames(t *testing.T) {
	for name, f := range wrong() {
		for p := range 3 {
			for _, at := range []int{0, 1, 4, 5, 64} {
				if n := Sample(f, p, at, at); n != 0 {
					t.Errorf("%s: a sample %d", name, n)
				}
				fails(t, name, f, p, at, 4, api.Vector{}, api.ErrPlane)
				fails(t, name, f, p, 4, at, api.Vector{X: 31, Y: -31}, api.ErrPlane)
				none(t, name, f, p, at, at, even(0), api.Vector{})
			}
		}
	}
}

// P9.2, P9.3, P9.4: planes that there aren't, below 0, beyond the last one, and far off.
func TestWrongPlanes(t *testing.T) {
	f := of(16, 24, 200)
	for _, p := range noPlanes {
		for _, at := range append([]int{-3, -1, 0, 1, 2, 5, 64}, far...) {
			if n := Sample(f, p, at, 0) + Sample(f, p, 0, at) + Sample(f, p, at, at); n != 0 {
				t.Errorf("plane %d, %d: a sample %d", p, at, n)
			}
		}
		for _, at := range []int{0, 4, 64} {
			fails(t, "plane", f, p, at, at, api.Vector{X: 1}, api.ErrPlane)
			none(t, "plane", f, p, at, at, even(0), api.Vector{})
		}
	}
	for p := range 3 {
		if b, e := Predict(f, p, 0, 0, api.Vector{}); b != even(200) || e != api.OK {
			t.Errorf("plane %d: %v, %v", p, b, e)
		}
	}
}

// P9.3, P9.4: places that may not be, one way, the other, and both.
func TestWrongPlaces(t *testing.T) {
	n := numbers(91)
	f := made(&n, 64, 64)
	for p := range 3 {
		for _, at := range noPlaces {
			for _, right := range []int{0, 1, 4, 31, 64} {
				fails(t, "x", f, p, at, right, api.Vector{}, api.ErrPlane)
				fails(t, "y", f, p, right, at, api.Vector{}, api.ErrPlane)
				none(t, "x", f, p, at, right, even(0), api.Vector{})
				none(t, "y", f, p, right, at, even(0), api.Vector{})
			}
			for _, other := range noPlaces {
				fails(t, "both", f, p, at, other, api.Vector{X: -2, Y: 3}, api.ErrPlane)
				none(t, "both", f, p, at, other, even(0), api.Vector{X: -2, Y: 3})
			}
		}
	}
}

// P9.3: vectors that may not be, at places that may, to the last one.
func TestWrongVectors(t *testing.T) {
	n := numbers(92)
	f := made(&n, 24, 8)
	for _, way := range noWays {
		for _, other := range slices.Concat(ways, noWays) {
			for p := range 3 {
				fails(t, "X", f, p, 4, 0, api.Vector{X: way, Y: other}, api.ErrVector)
				fails(t, "Y", f, p, 64, 64, api.Vector{X: other, Y: way}, api.ErrVector)
			}
		}
	}
}

// P9.3, P9.4, R2: where the vector is wrong, and something else too, the error is that of the plane; a search, of which nothing beside may be, finds nothing all the same.
func TestErrorsInOrder(t *testing.T) {
	n := numbers(93)
	f := made(&n, 16, 24)
	for _, way := range noWays {
		for _, v := range []api.Vector{{X: way}, {Y: way}, {X: way, Y: way}} {
			for name, g := range wrong() {
				fails(t, name, g, 0, 4, 4, v, api.ErrPlane)
				none(t, name, g, 0, 4, 4, even(0), v)
			}
			for _, p := range noPlanes {
				fails(t, "plane", f, p, 4, 4, v, api.ErrPlane)
				none(t, "plane", f, p, 4, 4, even(0), v)
			}
			for _, at := range noPlaces {
				fails(t, "x", f, 0, at, 4, v, api.ErrPlane)
				fails(t, "y", f, 0, 4, at, v, api.ErrPlane)
				none(t, "x", f, 0, at, 4, even(0), v)
				none(t, "y", f, 0, 4, at, even(0), v)
			}
		}
	}
}

// P9.2: the chapter's examples.
func TestExamples(t *testing.T) {
	f := of(8, 8, 99)
	f.Planes[0][0], f.Planes[0][1] = 10, 20
	for x, want := range []int{10, 15, 20} {
		if n := Sample(f, 0, x, 0); n != want {
			t.Errorf("%d: %d", x, n)
		}
	}
}

// R4: what is handed in stays as it was, its spare room included.
func TestStays(t *testing.T) {
	n := numbers(94)
	f := made(&n, 16, 24)
	for p, samples := range f.Planes {
		f.Planes[p] = append(append(make([]byte, 0, len(samples)+9), samples...), 1, 2, 3)[:len(samples)]
	}
	was := kept(f)
	a, b := api.Block{-5, 300, math.MaxInt, math.MinInt}, even(7)
	for p := -1; p <= 3; p++ {
		for x := -1; x <= 65; x += 3 {
			for y := -1; y <= 65; y += 3 {
				v := n.vector()
				Sample(f, p, 2*x+v.X, 2*y+v.Y)
				Predict(f, p, x, y, v)
				Predict(f, p, x, y, api.Vector{X: 32})
				Search(f, p, x, y, a, v)
				Both(a, b)
			}
		}
	}
	if f.W != 16 || f.H != 24 || plane.Check(f) != api.OK {
		t.Error("the frame has other sides")
	}
	for p, samples := range f.Planes {
		if !bytes.Equal(samples[:cap(samples)], was.Planes[p][:cap(samples)]) {
			t.Errorf("plane %d: its samples, or its spare room, are others", p)
		}
	}
	if a != (api.Block{-5, 300, math.MaxInt, math.MinInt}) || b != even(7) {
		t.Errorf("the blocks are others: %v, %v", a, b)
	}
}

// R5: calls ahead, and a frame's spare room, change no answer.
func TestRepeats(t *testing.T) {
	n := numbers(95)
	f := made(&n, 16, 24)
	roomy := f
	for p := range roomy.Planes {
		roomy.Planes[p] = append(make([]byte, 0, 9999), f.Planes[p]...)
	}
	want, _ := Predict(f, 0, 4, 8, api.Vector{X: 3, Y: -5})
	v, cost := Search(f, 0, 4, 8, even(100), api.Vector{X: 3, Y: -5})
	for i := range 3 {
		Sample(f, i, i, i)
		Predict(f, i+1, i, 4, api.Vector{X: 30 + i})
		Search(f, i, 4, 4, even(i), api.Vector{Y: 30 + i})
		Both(even(i), even(9))
		if b, e := Predict(roomy, 0, 4, 8, api.Vector{X: 3, Y: -5}); b != want || e != api.OK {
			t.Errorf("%v, %v", b, e)
		}
		if w, c := Search(roomy, 0, 4, 8, even(100), api.Vector{X: 3, Y: -5}); w != v || c != cost {
			t.Errorf("%v, %d", w, c)
		}
	}
}
