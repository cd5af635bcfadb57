package block

import (
	"bytes"
	"math"
	"testing"

	"clapboard/api"
	"clapboard/intra"
	"clapboard/motion"
)

// made is a frame whose samples look like chance, made by hand, with spare room behind each plane.
func made(n *numbers, w, h int) api.Frame {
	f := api.Frame{W: w, H: h}
	for p, many := range []int{w * h, w * h / 4, w * h / 4} {
		f.Planes[p] = make([]byte, many, many+9)
		for i := range f.Planes[p] {
			f.Planes[p][i] = byte(n.below(256))
		}
	}
	return f
}

// even is a frame of one sample everywhere, made by hand.
func even(w, h int, sample byte) api.Frame {
	one := bytes.Repeat([]byte{sample}, w*h)
	return api.Frame{W: w, H: h, Planes: [3][]byte{one, one[:w*h/4], one[:w*h/4]}}
}

// wrong are frames that may not be, each wrong in one way.
func wrong() []api.Frame {
	short, long := even(16, 16, 9), even(16, 16, 9)
	short.Planes[2] = short.Planes[2][1:]
	long.Planes[0] = append(long.Planes[0], 9)
	sides := even(16, 16, 9)
	sides.W, sides.H = 32, 16
	return []api.Frame{{}, {W: 8, H: 8}, even(0, 0, 9), even(12, 12, 9), even(8, 72, 9), short, long, sides, {W: math.MinInt, H: math.MinInt}, {W: math.MaxInt, H: math.MaxInt}, {W: 1 << 32, H: 1 << 32}}
}

// full is a block of one number.
func full(n int) api.Block {
	var b api.Block
	for i := range b {
		b[i] = n
	}
	return b
}

// predicted is what Predict should answer of what may be, by the chapter's words.
func predicted(f, past, next api.Frame, p, x, y int, c api.Choice) api.Block {
	own, _ := intra.Predict(f, p, x, y, c.Mode)
	behind, _ := motion.Predict(past, p, x, y, c.Past)
	beyond, _ := motion.Predict(next, p, x, y, c.Next)
	switch c.Mode {
	case 4:
		return behind
	case 5:
		return beyond
	case 6:
		return motion.Both(behind, beyond)
	}
	return own
}

// right holds a prediction to the chapter's words.
func right(t *testing.T, f, past, next api.Frame, p, x, y int, c api.Choice) {
	t.Helper()
	b, e := Predict(f, past, next, p, x, y, c)
	if want := predicted(f, past, next, p, x, y, c); b != want || e != api.OK {
		t.Fatalf("plane %d, at %d, %d, %+v: %v, %d, not %v", p, x, y, c, b, e, want)
	}
}

// P12.3: frames of one sample: which one each mode takes, and the mean of both, whose half goes up.
func TestPredictByHand(t *testing.T) {
	f, past, next := even(8, 8, 40), even(8, 8, 100), even(8, 8, 201)
	for mode, want := range [][2]int{{128, 40}, {128, 40}, {128, 40}, {128, 40}, {100, 100}, {201, 201}, {151, 151}} {
		for i, at := range []int{0, 4} {
			c := api.Choice{Mode: mode}
			if b, e := Predict(f, past, next, 0, at, at, c); b != full(want[i]) || e != api.OK {
				t.Errorf("%d at %d: %v, %d", mode, at, b, e)
			}
		}
	}
}

// P12.3: vectors by hand: the past one leads into the past, and the next one into the next.
func TestPredictByVectors(t *testing.T) {
	past, next := even(16, 16, 0), even(16, 16, 0)
	for i := range 256 {
		past.Planes[0][i] = byte(4 * (i % 16))
		next.Planes[0][i] = byte(8 * (i / 16))
	}
	for _, v := range []api.Vector{none, of(2, -3), of(-5, 4), of(8, 8)} {
		for _, u := range []api.Vector{none, of(1, 7), of(-8, -2)} {
			var behind, beyond, both api.Block
			for i := range 16 {
				behind[i] = 4*(4+i%4) + 2*v.X
				beyond[i] = 8*(8+i/4) + 4*u.Y
				both[i] = (behind[i] + beyond[i] + 1) / 2
			}
			for _, c := range []struct {
				c    api.Choice
				want api.Block
			}{
				{api.Choice{Mode: 4, Past: v}, behind},
				{api.Choice{Mode: 5, Next: u}, beyond},
				{api.Choice{Mode: 6, Past: v, Next: u}, both},
			} {
				if b, e := Predict(past, past, next, 0, 4, 8, c.c); b != c.want || e != api.OK {
					t.Errorf("%+v: %v, %d, not %v", c.c, b, e, c.want)
				}
			}
		}
	}
}

// P12.3: each mode, at places on and beyond each plane, of three frames unlike in samples and in sides.
func TestPredictEachPlace(t *testing.T) {
	n := numbers(330)
	f, past, next := made(&n, 24, 16), made(&n, 64, 8), made(&n, 8, 40)
	for mode := range 7 {
		for p := range 3 {
			for x := 0; x <= 64; x++ {
				for y := 0; y <= 64; y += 1 + n.below(3) {
					right(t, f, past, next, p, x, y, n.choice(mode))
				}
			}
			for _, at := range [][2]int{{0, 0}, {64, 0}, {0, 64}, {64, 64}} {
				right(t, f, past, next, p, at[0], at[1], n.choice(mode))
			}
		}
	}
}

// P12.3: vectors at the ends.
func TestPredictEachVector(t *testing.T) {
	n := numbers(331)
	f, past, next := made(&n, 8, 8), made(&n, 8, 8), made(&n, 8, 8)
	for x := -31; x <= 31; x++ {
		for y := -31; y <= 31; y++ {
			right(t, f, past, next, 0, 4, 0, api.Choice{Mode: 4, Past: of(x, y)})
			right(t, f, past, next, 1, 0, 0, api.Choice{Mode: 5, Next: of(x, y)})
			right(t, f, past, next, 0, 0, 4, api.Choice{Mode: 6, Past: of(x, y), Next: of(-y, x)})
		}
	}
}

// fails: there is an error, and no block.
func fails(t *testing.T, f, past, next api.Frame, p, x, y int, c api.Choice, want api.Errno) {
	t.Helper()
	if b, e := Predict(f, past, next, p, x, y, c); b != (api.Block{}) || e != want {
		t.Fatalf("plane %d, at %d, %d, %+v: %v, %d, not %d", p, x, y, c, b, e, want)
	}
}

// P12.3: frames that may not be, the own one, the past, the next, and all, beside each mode: ErrPlane, where the mode takes them; where not, the block is as it would be.
func TestPredictOfWrongFrames(t *testing.T) {
	n := numbers(332)
	f, past, next := made(&n, 16, 16), made(&n, 16, 16), made(&n, 16, 16)
	for i, bad := range wrong() {
		for mode := range 7 {
			c := n.choice(mode)
			for at, frames := range [][3]api.Frame{{bad, past, next}, {f, bad, next}, {f, past, bad}} {
				if at == 0 && mode < 4 || at == 1 && (mode == 4 || mode == 6) || at == 2 && mode > 4 {
					fails(t, frames[0], frames[1], frames[2], 0, 4, 8, c, api.ErrPlane)
					continue
				}
				if b, e := Predict(frames[0], frames[1], frames[2], 0, 4, 8, c); b != predicted(f, past, next, 0, 4, 8, c) || e != api.OK {
					t.Errorf("frame %d, mode %d, %d: %v, %d", i, mode, at, b, e)
				}
			}
			fails(t, bad, bad, bad, 2, 4, 0, c, api.ErrPlane)
		}
	}
}

// P12.3: planes and places outside, both ends of an int among them, beside each mode.
func TestPredictOutside(t *testing.T) {
	n := numbers(333)
	f, past, next := made(&n, 16, 8), made(&n, 16, 8), made(&n, 16, 8)
	for mode := range 7 {
		c := n.choice(mode)
		for _, p := range append([]int{-3, -2, -1, 3, 4, 5, 256}, far...) {
			fails(t, f, past, next, p, 4, 4, c, api.ErrPlane)
		}
		for _, at := range append([]int{-64, -4, -1, 65, 66, 68, 128, 256}, far...) {
			for p := range 3 {
				fails(t, f, past, next, p, at, 4, c, api.ErrPlane)
				fails(t, f, past, next, p, 4, at, c, api.ErrPlane)
				fails(t, f, past, next, p, at, at, c, api.ErrPlane)
			}
		}
	}
}

// P12.3: a mode that there is not: ErrBlock, whatever else is wrong.
func TestPredictOfNoMode(t *testing.T) {
	n := numbers(334)
	f := made(&n, 16, 8)
	for _, mode := range append([]int{-4, -3, -2, -1, 7, 8, 9, 10, 256, 260}, far...) {
		fails(t, f, f, f, 0, 0, 0, api.Choice{Mode: mode}, api.ErrBlock)
		fails(t, f, f, f, 1, 4, 4, api.Choice{Mode: mode, Past: of(32, 0), Next: of(0, math.MinInt)}, api.ErrBlock)
		fails(t, f, f, f, 3, -1, 65, api.Choice{Mode: mode}, api.ErrBlock)
		fails(t, api.Frame{}, api.Frame{}, api.Frame{}, 0, 0, 0, api.Choice{Mode: mode}, api.ErrBlock)
	}
}

// P12.3: vectors at, and beyond, the ends, both ends of an int among them: ErrVector, where the mode has them; where not, they change nothing.
func TestPredictOfWrongVectors(t *testing.T) {
	n := numbers(335)
	f, past, next := made(&n, 16, 8), made(&n, 16, 8), made(&n, 16, 8)
	for _, k := range ways {
		for _, v := range []api.Vector{of(k, 3), of(-3, k), of(k, k)} {
			for mode := range 7 {
				for _, c := range []api.Choice{{Mode: mode, Past: v, Next: of(1, 1)}, {Mode: mode, Past: of(1, 1), Next: v}, {Mode: mode, Past: v, Next: v}} {
					had := mode == 4 && !(goes(c.Past.X) && goes(c.Past.Y)) || mode == 5 && !(goes(c.Next.X) && goes(c.Next.Y)) || mode == 6 && !goes(k)
					if had {
						fails(t, f, past, next, 0, 4, 4, c, api.ErrVector)
						continue
					}
					right(t, f, past, next, 0, 4, 4, c)
				}
			}
		}
	}
}

// P12.3, R2: of MBoth's errors the first one, the past one's ahead; of one side ErrPlane ahead of ErrVector.
func TestPredictWhichError(t *testing.T) {
	n := numbers(336)
	f, no := made(&n, 16, 8), api.Frame{}
	bad := of(0, 32)
	for i, c := range []struct {
		past, next api.Frame
		x          int
		c          api.Choice
		want       api.Errno
	}{
		{f, no, 0, api.Choice{Mode: 6, Past: bad}, api.ErrVector},
		{f, no, 0, api.Choice{Mode: 6, Past: bad, Next: bad}, api.ErrVector},
		{f, no, 0, api.Choice{Mode: 6, Next: bad}, api.ErrPlane},
		{no, f, 0, api.Choice{Mode: 6, Next: bad}, api.ErrPlane},
		{no, f, 0, api.Choice{Mode: 6, Past: bad}, api.ErrPlane},
		{no, f, 0, api.Choice{Mode: 4, Past: bad}, api.ErrPlane},
		{f, no, 0, api.Choice{Mode: 5, Next: bad}, api.ErrPlane},
		{f, f, 0, api.Choice{Mode: 6, Past: bad}, api.ErrVector},
		{f, f, 0, api.Choice{Mode: 6, Next: bad}, api.ErrVector},
		{f, f, 65, api.Choice{Mode: 6, Past: bad, Next: bad}, api.ErrPlane},
		{f, f, -1, api.Choice{Mode: 4, Past: bad}, api.ErrPlane},
	} {
		if b, e := Predict(f, c.past, c.next, 0, c.x, 0, c.c); b != (api.Block{}) || e != c.want {
			t.Errorf("%d: %v, %d, not %d", i, b, e, c.want)
		}
	}
}

// P12.3: levels, and vectors that the mode has not, change nothing, though Check would refuse them.
func TestPredictOfWhatIsRefused(t *testing.T) {
	n := numbers(337)
	f, past, next := made(&n, 16, 8), made(&n, 16, 8), made(&n, 16, 8)
	for mode := range 7 {
		c := n.choice(mode)
		want := predicted(f, past, next, 0, 8, 4, c)
		c.Levels = api.Block{math.MinInt, 15: math.MaxInt}
		if mode != 4 && mode != 6 {
			c.Past = of(math.MinInt, 32)
		}
		if mode != 5 && mode != 6 {
			c.Next = of(1, math.MaxInt)
		}
		if b, e := Predict(f, past, next, 0, 8, 4, c); b != want || e != api.OK {
			t.Errorf("%d: %v, %d, not %v", mode, b, e, want)
		}
	}
}

// R4: no frame that is handed in is changed, its spare room included.
func TestPredictChangesNothing(t *testing.T) {
	n := numbers(338)
	frames := [3]api.Frame{made(&n, 16, 8), made(&n, 16, 8), made(&n, 8, 16)}
	var before [3][3][]byte
	for i, f := range frames {
		for p, samples := range f.Planes {
			before[i][p] = bytes.Clone(samples[:cap(samples)])
		}
	}
	for range 200 {
		Predict(frames[0], frames[1], frames[2], n.below(5)-1, n.below(70)-2, n.below(70)-2, n.choice(n.below(7)))
	}
	for i, f := range frames {
		for p, samples := range f.Planes {
			if !bytes.Equal(before[i][p], samples[:cap(samples)]) {
				t.Errorf("frame %d, plane %d", i, p)
			}
		}
	}
}
