package picture

import (
	"bytes"
	"math"
	"slices"
	"testing"

	"clapboard/api"
	"clapboard/bits"
	"clapboard/block"
	"clapboard/plane"
)

// numbers are numbers one behind the other that look like chance, and are the same in each run.
type numbers uint64

func (n *numbers) next() uint64 {
	*n = *n*6364136223846793005 + 1442695040888963407
	return uint64(*n >> 11)
}

// below is a number from 0 to m - 1.
func (n *numbers) below(m int) int { return int(n.next() % uint64(m)) }

// vector is one that may be: mostly a small one.
func (n *numbers) vector() api.Vector {
	if n.below(2) == 0 {
		return of(n.below(9)-4, n.below(9)-4)
	}
	return of(n.below(63)-31, n.below(63)-31)
}

// levels are some that may be: mostly small ones, and at times none, or one at either end.
func (n *numbers) levels() api.Block {
	var b api.Block
	for range n.below(2) * n.below(8) {
		b[n.below(16)] = n.below(41) - 20
	}
	if n.below(16) == 0 {
		b[n.below(16)] = []int{-1 << 20, 1 << 20, 777, -4080, 4080}[n.below(5)]
	}
	return b
}

// choice is one that may be, of a mode.
func (n *numbers) choice(mode int) api.Choice {
	c := api.Choice{Mode: mode, Levels: n.levels()}
	if mode == 4 || mode == 6 {
		c.Past = n.vector()
	}
	if mode == 5 || mode == 6 {
		c.Next = n.vector()
	}
	return c
}

// choices are those of a picture of a kind: of all its modes, or mostly of its last one.
func (n *numbers) choices(s api.Sequence, kind int) []api.Choice {
	last := []int{3, 4, 6}[kind]
	often := n.below(2)
	var l []api.Choice
	for range order(s) {
		mode := n.below(last + 1)
		if often == 1 && n.below(4) > 0 {
			mode = last
		}
		l = append(l, n.choice(mode))
	}
	return l
}

// frame is one of a sequence, whose samples look like chance.
func (n *numbers) frame(s api.Sequence) api.Frame {
	f := api.Frame{W: s.W, H: s.H, Planes: [3][]byte{make([]byte, s.W*s.H), make([]byte, s.W*s.H/4), make([]byte, s.W*s.H/4)}}
	for _, samples := range f.Planes {
		for i := range samples {
			samples[i] = byte(n.next())
		}
	}
	return f
}

// bytes are so many bytes.
func (n *numbers) bytes(many int) []byte {
	b := make([]byte, many)
	for i := range b {
		b[i] = byte(n.next())
	}
	return b
}

// of is a vector of two numbers; none is the one of 0 and 0.
func of(x, y int) api.Vector { return api.Vector{X: x, Y: y} }

var none api.Vector

// sized is a sequence of two sides.
func sized(w, h int) api.Sequence { return api.Sequence{W: w, H: h, Rate: 100, Buffer: 1000} }

// sizes are sequences with the least sides, with the greatest, and with such as differ.
var sizes = []api.Sequence{sized(8, 8), sized(8, 16), sized(16, 8), sized(16, 16), sized(24, 40), sized(8, 64), sized(64, 8), sized(64, 64)}

// far are numbers that nothing has here, both ends of an int among them, and some that look like others when their highest bits are dropped.
var far = []int{
	math.MinInt, math.MinInt + 1, math.MinInt + 8, math.MinInt64/2 - 1, -1<<32 - 8, -1 << 32, -1<<32 + 1, -1<<32 + 8, math.MinInt32, -1 << 24, -256, -248, -64, -8, -2, -1,
	1<<30 + 1, math.MaxInt32, math.MaxInt32 + 1, 1<<32 - 1, 1 << 32, 1<<32 + 1, 1<<32 + 8, 1<<40 + 8, math.MaxInt64/2 + 1, math.MaxInt - 7, math.MaxInt - 1, math.MaxInt,
}

// wrongSequences are sequences that may not be, each by one number alone: one beyond what may be, and further.
func wrongSequences() []api.Sequence {
	l := []api.Sequence{{}, {W: 8, H: 8}, {Rate: 1, Buffer: 1}}
	for _, n := range append([]int{0, 1, 4, 7, 9, 12, 15, 17, 63, 65, 68, 72, 128}, far...) {
		l = append(l, api.Sequence{W: n, H: 8, Rate: 100, Buffer: 1000}, api.Sequence{W: 8, H: n, Rate: 100, Buffer: 1000})
	}
	for _, n := range append([]int{0, 1<<24 + 1}, far...) {
		l = append(l, api.Sequence{W: 8, H: 8, Rate: n, Buffer: 1 << 30})
	}
	for _, n := range append([]int{0, 99}, far...) {
		l = append(l, api.Sequence{W: 8, H: 8, Rate: 100, Buffer: n})
	}
	return l
}

// rightSequences are the sequence of 8 by 8 with other numbers that may be, the edges among them.
func rightSequences() []api.Sequence {
	var l []api.Sequence
	for _, n := range [][2]int{{1, 1}, {1, 2}, {1, 1 << 30}, {100, 100}, {100, 101}, {1<<24 - 1, 1 << 24}, {1 << 24, 1 << 24}, {1 << 24, 1<<30 - 1}, {1 << 24, 1 << 30}} {
		l = append(l, api.Sequence{W: 8, H: 8, Rate: n[0], Buffer: n[1]})
	}
	return l
}

// wrongHeads are heads that may not be, each by one number alone.
func wrongHeads() []api.Head {
	var l []api.Head
	for _, n := range append([]int{3, 4, 5, 6, 256, 257}, far...) {
		l = append(l, api.Head{Kind: n})
	}
	for kind := range 3 {
		for _, n := range append([]int{21, 22, 256, 1 << 24}, far...) {
			l = append(l, api.Head{Kind: kind, Quality: n})
		}
		for _, n := range append([]int{1 << 24, 1<<24 + 1}, far...) {
			l = append(l, api.Head{Kind: kind, Display: n})
		}
		for _, n := range far {
			l = append(l, api.Head{Kind: kind, Full: n})
		}
	}
	return l
}

// rightHeads are a head with other numbers of Display and Full that may be, the edges among them.
func rightHeads(h api.Head) []api.Head {
	var l []api.Head
	for _, display := range []int{0, 1, 2, 200, 255, 256, 1<<24 - 2, 1<<24 - 1} {
		for _, full := range []int{0, 1, 1000, 1 << 24, 1<<30 - 1, 1 << 30} {
			l = append(l, api.Head{Kind: h.Kind, Quality: h.Quality, Display: display, Full: full})
		}
	}
	return l
}

// strangers are frames that do not fit the sequence of 16 by 8: such as may not be, and such as are of another size.
func strangers() []api.Frame {
	n := numbers(4)
	s := sized(16, 8)
	l := []api.Frame{{}, {W: 16, H: 8}, n.frame(sized(8, 8)), n.frame(sized(8, 16)), n.frame(sized(16, 16)), n.frame(sized(24, 8)), n.frame(sized(64, 64))}
	for p := range 3 {
		short, long, bare := n.frame(s), n.frame(s), n.frame(s)
		short.Planes[p] = short.Planes[p][1:]
		long.Planes[p] = append(long.Planes[p], 0)
		bare.Planes[p] = nil
		l = append(l, short, long, bare)
	}
	for _, side := range append([]int{0, 1, 7, 9, 15, 17, 72}, far...) {
		wide, high := n.frame(s), n.frame(s)
		wide.W, high.H = side, side
		l = append(l, wide, high)
	}
	// As many samples, of sides that may be one by one.
	turned := n.frame(s)
	turned.W, turned.H = 8, 16
	return append(l, turned)
}

// order is where the blocks of a sequence's pictures stand, by the chapter's words: the plane, the column and the row of each.
func order(s api.Sequence) [][3]int {
	var l [][3]int
	for p, side := range [3]int{4, 8, 8} {
		for y := 0; y < s.H/side; y++ {
			for x := 0; x < s.W/side; x++ {
				l = append(l, [3]int{p, x, y})
			}
		}
	}
	return l
}

// vectors are those of a picture's blocks, by the plane, the column and the row; there are none where there are no blocks.
type vectors map[[3]int]api.Vector

// guess is chapter 10's, of the vectors of the block's own plane alone.
func (v vectors) guess(at [3]int) api.Vector {
	a, b, c := v[[3]int{at[0], at[1] - 1, at[2]}], v[[3]int{at[0], at[1], at[2] - 1}], v[[3]int{at[0], at[1] + 1, at[2] - 1}]
	middle := func(l ...int) int {
		slices.Sort(l)
		return l[1]
	}
	return of(middle(a.X, b.X, c.X), middle(a.Y, b.Y, c.Y))
}

// teller tells the blocks of a picture, one behind the other, by the chapter's words.
type teller struct {
	w          *bits.Writer
	kind       int
	left       [][3]int
	past, next vectors
}

func newTeller(s api.Sequence, kind int) *teller {
	return &teller{w: &bits.Writer{}, kind: kind, left: order(s), past: vectors{}, next: vectors{}}
}

// guesses are those of the next block.
func (t *teller) guesses() (api.Vector, api.Vector) {
	return t.past.guess(t.left[0]), t.next.guess(t.left[0])
}

// tell adds blocks.
func (t *teller) tell(l ...api.Choice) {
	for _, c := range l {
		past, next := t.guesses()
		if e := block.Write(t.w, t.kind, c, past, next); e != api.OK {
			panic(e)
		}
		t.past[t.left[0]], t.next[t.left[0]] = c.Past, c.Next
		t.left = t.left[1:]
	}
}

// ended are all bytes, with their end.
func (t *teller) ended() []byte {
	t.w.End()
	return t.w.Bytes()
}

// payload are a picture's bytes.
func payload(s api.Sequence, kind int, l []api.Choice) []byte {
	t := newTeller(s, kind)
	t.tell(l...)
	return t.ended()
}

// alike are as many of one choice as a sequence's picture has blocks.
func alike(s api.Sequence, c api.Choice) []api.Choice {
	return slices.Repeat([]api.Choice{c}, len(order(s)))
}

// plainChoices is what Choices should answer, of a sequence and a head that may be, by the chapter's words.
func plainChoices(s api.Sequence, h api.Head, payload []byte) ([]api.Choice, api.Errno) {
	r := bits.New(payload)
	past, next := vectors{}, vectors{}
	var l []api.Choice
	for _, at := range order(s) {
		c, e := block.Read(r, h.Kind, past.guess(at), next.guess(at))
		if e != api.OK {
			return nil, e
		}
		past[at], next[at] = c.Past, c.Next
		l = append(l, c)
	}
	if r.Done() != api.OK {
		return nil, api.ErrPicture
	}
	return l, api.OK
}

// plainFrame is the frame that choices stand for, by the chapter's words.
func plainFrame(t *testing.T, s api.Sequence, quality int, l []api.Choice, past, next api.Frame) api.Frame {
	t.Helper()
	f := api.Frame{W: s.W, H: s.H, Planes: [3][]byte{make([]byte, s.W*s.H), make([]byte, s.W*s.H/4), make([]byte, s.W*s.H/4)}}
	for i, at := range order(s) {
		p, x, y := at[0], 4*at[1], 4*at[2]
		b, e := block.Predict(f, past, next, p, x, y, l[i])
		if e != api.OK {
			t.Fatal(e)
		}
		if b, e = block.Build(b, l[i], quality); e != api.OK {
			t.Fatal(e)
		}
		w := s.W
		if p > 0 {
			w /= 2
		}
		for k, n := range b {
			f.Planes[p][(y+k/4)*w+x+k%4] = byte(n)
		}
	}
	return f
}

// same tells whether two frames have the same sides and samples.
func same(a, b api.Frame) bool {
	return a.W == b.W && a.H == b.H && bytes.Equal(a.Planes[0], b.Planes[0]) && bytes.Equal(a.Planes[1], b.Planes[1]) && bytes.Equal(a.Planes[2], b.Planes[2])
}

// kept is f as it is now, made by hand.
func kept(f api.Frame) api.Frame {
	for p := range f.Planes {
		f.Planes[p] = bytes.Clone(f.Planes[p])
	}
	return f
}

// checkNone: neither Choices nor Decode has anything of it but the error.
func checkNone(t *testing.T, s api.Sequence, h api.Head, payload []byte, past, next api.Frame, choices, decode api.Errno) {
	t.Helper()
	if l, e := Choices(s, h, payload); e != choices || len(l) != 0 {
		t.Fatalf("%+v, %+v, %v: choices %v, %d, not %d", s, h, payload, l, e, choices)
	}
	if f, e := Decode(s, h, payload, past, next); e != decode || !same(f, api.Frame{}) {
		t.Fatalf("%+v, %+v, %v: frame %v, %d, not %d", s, h, payload, f, e, decode)
	}
}

// P13.1: a frame of a sequence fits, whatever its samples, its spare room and the sequence's other numbers are; one of another size does not.
func TestFits(t *testing.T) {
	n := numbers(1)
	for _, w := range []int{8, 16, 24, 32, 40, 48, 56, 64} {
		for _, h := range []int{8, 16, 24, 32, 40, 48, 56, 64} {
			f := n.frame(sized(w, h))
			for _, other := range sizes {
				if got := Fits(other, f); got != (other.W == w && other.H == h) {
					t.Errorf("%d by %d in %d by %d: %v", w, h, other.W, other.H, got)
				}
			}
			if !Fits(sized(w, h), f) {
				t.Errorf("%d by %d", w, h)
			}
		}
	}
	f, _ := plane.New(8, 8, 0)
	for p := range f.Planes {
		f.Planes[p] = append(make([]byte, 0, 999), f.Planes[p]...)
	}
	for _, s := range rightSequences() {
		if !Fits(s, f) {
			t.Errorf("%+v", s)
		}
	}
}

// P13.1: what may not be fits nothing: a sequence, beside a frame of its sides too, or a frame, beside a sequence of its sides too.
func TestFitsNot(t *testing.T) {
	n := numbers(2)
	small := n.frame(sized(8, 8))
	for _, s := range wrongSequences() {
		like := small
		like.W, like.H = s.W, s.H
		for _, f := range []api.Frame{small, like, {}, {W: s.W, H: s.H}} {
			if Fits(s, f) {
				t.Errorf("%+v, a frame of %d by %d", s, f.W, f.H)
			}
		}
	}
	for i, f := range strangers() {
		if Fits(sized(16, 8), f) || Fits(sized(f.W, f.H), f) && plane.Check(f) != api.OK {
			t.Errorf("stranger %d", i)
		}
	}
}

// P13.1, R4: a frame and its spare room stay as they were.
func TestFitsKeeps(t *testing.T) {
	n := numbers(3)
	f := n.frame(sized(16, 8))
	was := kept(f)
	if !Fits(sized(16, 8), f) || Fits(sized(8, 16), f) || !same(f, was) {
		t.Error("not as it was")
	}
}
