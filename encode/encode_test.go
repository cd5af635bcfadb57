package encode

import (
	"bytes"
	"math"
	"slices"

	"clapboard/api"
	"clapboard/bits"
	"clapboard/block"
	"clapboard/head"
	"clapboard/intra"
	"clapboard/motion"
	"clapboard/plane"
	"clapboard/quant"
	"clapboard/wave"
)

// numbers are numbers one behind the other that look like chance, and are the same in each run.
type numbers uint64

func (n *numbers) next() uint64 {
	*n = *n*6364136223846793005 + 1442695040888963407
	return uint64(*n >> 11)
}

// below is a number from 0 to m - 1.
func (n *numbers) below(m int) int { return int(n.next() % uint64(m)) }

// vector is one that may be.
func (n *numbers) vector() api.Vector { return of(n.below(63)-31, n.below(63)-31) }

// block is one of samples.
func (n *numbers) block() api.Block {
	var b api.Block
	for i := range b {
		b[i] = n.below(256)
	}
	return b
}

// frame is one of a sequence, whose samples look like chance.
func (n *numbers) frame(s api.Sequence) api.Frame {
	f := blank(s)
	for _, samples := range f.Planes {
		for i := range samples {
			samples[i] = byte(n.next())
		}
	}
	return f
}

// hills is a frame whose samples rise and fall slowly, so that one that is moved a little is much like it.
func (n *numbers) hills(s api.Sequence) api.Frame {
	f := blank(s)
	for p := range f.Planes {
		a, b, c := 1+n.below(9), 1+n.below(9), n.below(256)
		w, _ := plane.Size(f, p)
		for i := range f.Planes[p] {
			x, y := i%w, i/w
			f.Planes[p][i] = byte(128 + 100*math.Sin(float64(a*x+c)/9)*math.Cos(float64(b*y-c)/11))
		}
	}
	return f
}

// like is a frame whose samples are at most so far from another one's.
func (n *numbers) like(f api.Frame, far int) api.Frame {
	f = kept(f)
	for _, samples := range f.Planes {
		for i := range samples {
			samples[i] = byte(max(0, min(int(samples[i])+n.below(2*far+1)-far, 255)))
		}
	}
	return f
}

// moved is a frame all of whose blocks come from another one by a vector.
func moved(f api.Frame, v api.Vector) api.Frame {
	g := kept(f)
	for p := range g.Planes {
		w, _ := plane.Size(f, p)
		for i := range g.Planes[p] {
			g.Planes[p][i] = byte(motion.Sample(f, p, 2*(i%w)+v.X, 2*(i/w)+v.Y))
		}
	}
	return g
}

// film are three frames of a sequence, of which the first has to do with both others, more or less.
func (n *numbers) film(s api.Sequence) (frame, past, next api.Frame) {
	switch n.below(4) {
	case 0:
		return n.frame(s), n.frame(s), n.frame(s)
	case 1:
		past = n.hills(s)
		return n.like(moved(past, of(n.below(5)-2, n.below(5)-2)), 6), past, n.like(moved(past, of(n.below(9)-4, n.below(9)-4)), 3)
	case 2:
		next = n.frame(s)
		return n.like(moved(next, of(n.below(9)-4, n.below(9)-4)), 30), n.hills(s), next
	}
	past, next = n.frame(s), n.frame(s)
	frame = blank(s)
	for _, at := range order(s) {
		p, x, y := at[0], 4*at[1], 4*at[2]
		a, _ := motion.Predict(past, p, x, y, of(n.below(5)-2, n.below(5)-2))
		b, _ := motion.Predict(next, p, x, y, of(n.below(5)-2, n.below(5)-2))
		frame = plane.Put(frame, p, x, y, []api.Block{a, b, motion.Both(a, b), n.block()}[n.below(4)])
	}
	return frame, past, next
}

// of is a vector of two numbers; none is the one of 0 and 0.
func of(x, y int) api.Vector { return api.Vector{X: x, Y: y} }

var none api.Vector

// sized is a sequence of two sides.
func sized(w, h int) api.Sequence { return api.Sequence{W: w, H: h, Rate: 100, Buffer: 1000} }

// sizes are sequences with the least sides, with the greatest, and with such as differ.
var sizes = []api.Sequence{sized(8, 8), sized(8, 16), sized(16, 8), sized(16, 16), sized(24, 40), sized(8, 64), sized(64, 8), sized(64, 64)}

// far are numbers that nothing has here, both ends of an int among them, and some that look like others when their highest bits are dropped.
var far = []int{
	math.MinInt, math.MinInt + 1, math.MinInt + 8, math.MinInt64/2 - 1, -1<<32 - 8, -1 << 32, -1<<32 + 1, -1<<32 + 8, math.MinInt32, -1 << 24, -256, -248, -64, -8, -2, -1,
	1<<30 + 1, math.MaxInt32, math.MaxInt32 + 1, 1<<32 - 1, 1 << 32, 1<<32 + 1, 1<<32 + 8, 1<<40 + 8, math.MaxInt64/2 + 1, math.MaxInt - 7, math.MaxInt - 1, math.MaxInt,
}

// wrongSequences are sequences that may not be, each by one number alone: one beyond what may be, and further.
func wrongSequences() []api.Sequence {
	l := []api.Sequence{{}, {W: 8, H: 8}, {Rate: 1, Buffer: 1}}
	for _, n := range append([]int{0, 1, 4, 7, 9, 12, 15, 17, 63, 65, 68, 72, 128}, far...) {
		l = append(l, api.Sequence{W: n, H: 8, Rate: 100, Buffer: 1000}, api.Sequence{W: 8, H: n, Rate: 100, Buffer: 1000})
	}
	for _, n := range append([]int{0, 1<<24 + 1}, far...) {
		l = append(l, api.Sequence{W: 8, H: 8, Rate: n, Buffer: 1 << 30})
	}
	for _, n := range append([]int{0, 99}, far...) {
		l = append(l, api.Sequence{W: 8, H: 8, Rate: 100, Buffer: n})
	}
	return l
}

// rightSequences are the sequence of 8 by 8 with other numbers that may be, the edges among them.
func rightSequences() []api.Sequence {
	var l []api.Sequence
	for _, n := range [][2]int{{1, 1}, {1, 2}, {1, 1 << 30}, {100, 101}, {1<<24 - 1, 1 << 24}, {1 << 24, 1 << 24}, {1 << 24, 1 << 30}} {
		l = append(l, api.Sequence{W: 8, H: 8, Rate: n[0], Buffer: n[1]})
	}
	return l
}

// wrongHeads are heads that may not be, each by one number alone.
func wrongHeads() []api.Head {
	var l []api.Head
	for _, n := range append([]int{3, 4, 5, 6, 256, 257}, far...) {
		l = append(l, api.Head{Kind: n})
	}
	for kind := range 3 {
		for _, n := range append([]int{21, 22, 256, 1 << 24}, far...) {
			l = append(l, api.Head{Kind: kind, Quality: n})
		}
		for _, n := range append([]int{1 << 24, 1<<24 + 1}, far...) {
			l = append(l, api.Head{Kind: kind, Display: n})
		}
		for _, n := range far {
			l = append(l, api.Head{Kind: kind, Full: n})
		}
	}
	return l
}

// rightHeads are a head with other numbers of Display and Full that may be, the edges among them.
func rightHeads(kind, quality int) []api.Head {
	var l []api.Head
	for _, display := range []int{0, 1, 200, 256, 1<<24 - 1} {
		for _, full := range []int{0, 1, 1000, 1 << 24, 1 << 30} {
			l = append(l, api.Head{Kind: kind, Quality: quality, Display: display, Full: full})
		}
	}
	return l
}

// wrongFrames are frames that may not be: none, and frames of 16 by 8 of which one plane, or one side, is wrong.
func wrongFrames() []api.Frame {
	n := numbers(4)
	s := sized(16, 8)
	l := []api.Frame{{}, {W: 16, H: 8}}
	for p := range 3 {
		short, long, bare := n.frame(s), n.frame(s), n.frame(s)
		short.Planes[p] = short.Planes[p][1:]
		long.Planes[p] = append(long.Planes[p], 0)
		bare.Planes[p] = nil
		l = append(l, short, long, bare)
	}
	for _, side := range append([]int{0, 1, 7, 9, 15, 17, 72}, far...) {
		wide, high := n.frame(s), n.frame(s)
		wide.W, high.H = side, side
		l = append(l, wide, high)
	}
	return l
}

// strangers are frames that do not fit the sequence of 16 by 8: such as may not be, and such as are of another size.
func strangers() []api.Frame {
	n := numbers(5)
	l := wrongFrames()
	for _, s := range []api.Sequence{sized(8, 8), sized(8, 16), sized(16, 16), sized(24, 8), sized(64, 64)} {
		l = append(l, n.frame(s))
	}
	return l
}

// blank is a frame of samples 0; flat is one of one sample for each plane.
func blank(s api.Sequence) api.Frame {
	return flat(s, [3]byte{})
}

func flat(s api.Sequence, samples [3]byte) api.Frame {
	f := api.Frame{W: s.W, H: s.H}
	for p, n := range samples {
		many := s.W * s.H
		if p > 0 {
			many /= 4
		}
		f.Planes[p] = bytes.Repeat([]byte{n}, many)
	}
	return f
}

// full is a block of one number.
func full(n int) api.Block {
	var b api.Block
	for i := range b {
		b[i] = n
	}
	return b
}

// same tells whether two frames have the same sides and samples.
func same(a, b api.Frame) bool {
	return a.W == b.W && a.H == b.H && bytes.Equal(a.Planes[0], b.Planes[0]) && bytes.Equal(a.Planes[1], b.Planes[1]) && bytes.Equal(a.Planes[2], b.Planes[2])
}

// kept is f as it is now, made by hand.
func kept(f api.Frame) api.Frame {
	for p := range f.Planes {
		f.Planes[p] = bytes.Clone(f.Planes[p])
	}
	return f
}

// roomy is f with spare room behind each plane, all of one piece: what is written beyond a plane is seen in the next one.
func roomy(f api.Frame) (api.Frame, []byte) {
	all := bytes.Repeat([]byte{0xAA}, 9000)
	at := 0
	for p, samples := range f.Planes {
		f.Planes[p] = all[at : at+copy(all[at:], samples)]
		at += len(samples)
	}
	return f, all
}

// soil writes over all of a frame's planes, and their spare room.
func soil(f api.Frame) {
	for p := range f.Planes {
		for i := range f.Planes[p][:cap(f.Planes[p])] {
			f.Planes[p][:cap(f.Planes[p])][i] ^= 0xFF
		}
	}
}

// order is where the blocks of a sequence's pictures stand, by chapter 13's words: the plane, the column and the row of each.
func order(s api.Sequence) [][3]int {
	var l [][3]int
	for p, side := range [3]int{4, 8, 8} {
		for y := 0; y < s.H/side; y++ {
			for x := 0; x < s.W/side; x++ {
				l = append(l, [3]int{p, x, y})
			}
		}
	}
	return l
}

// vectors are those of a picture's blocks, by the plane, the column and the row; there are none where there are no blocks.
type vectors map[[3]int]api.Vector

// guess is chapter 10's, of the vectors of the block's own plane alone.
func (v vectors) guess(at [3]int) api.Vector {
	a, b, c := v[[3]int{at[0], at[1] - 1, at[2]}], v[[3]int{at[0], at[1], at[2] - 1}], v[[3]int{at[0], at[1] + 1, at[2] - 1}]
	middle := func(l ...int) int {
		slices.Sort(l)
		return l[1]
	}
	return of(middle(a.X, b.X, c.X), middle(a.Y, b.Y, c.Y))
}

// asked is all that Choose is given.
type asked struct {
	h             api.Head
	f, past, next api.Frame
	p, x, y       int
	b             api.Block
	guesses       [2]api.Vector
}

// answer is what Choose answers.
type answer struct {
	c    api.Choice
	made api.Block
	e    api.Errno
}

func (a asked) choose() answer {
	c, made, e := Choose(a.h, a.f, a.past, a.next, a.p, a.x, a.y, a.b, a.guesses)
	return answer{c, made, e}
}

// plainChoices are the candidates, by the chapter's words; none, if one of them is not there.
func (a asked) plainChoices() []api.Choice {
	mode, _ := intra.Best(a.f, a.p, a.x, a.y, a.b)
	if mode == -1 {
		return nil
	}
	l := []api.Choice{{Mode: mode}}
	var past, next api.Vector
	var cost int
	if a.h.Kind == 1 || a.h.Kind == 2 {
		if past, cost = motion.Search(a.past, a.p, a.x, a.y, a.b, a.guesses[0]); cost == -1 {
			return nil
		}
		l = append(l, api.Choice{Mode: 4, Past: past})
	}
	if a.h.Kind == 2 {
		if next, cost = motion.Search(a.next, a.p, a.x, a.y, a.b, a.guesses[1]); cost == -1 {
			return nil
		}
		l = append(l, api.Choice{Mode: 5, Next: next}, api.Choice{Mode: 6, Past: past, Next: next})
	}
	return l
}

// plain is what Choose should answer, by the chapter's words.
func (a asked) plain() answer {
	if e := head.Check(a.h); e != api.OK {
		return answer{e: e}
	}
	l := a.plainChoices()
	if l == nil {
		return answer{e: api.ErrPicture}
	}
	best, least := answer{}, math.MaxInt
	for _, c := range l {
		guess, e := block.Predict(a.f, a.past, a.next, a.p, a.x, a.y, c)
		if e != api.OK {
			panic(e)
		}
		if cost := intra.Cost(guess, a.b); cost < least {
			least = cost
			c.Levels, _ = quant.Down(wave.Forward(wave.Less(a.b, guess)), a.h.Quality)
			best.c = c
			best.made, best.e = block.Build(guess, c, a.h.Quality)
		}
	}
	return best
}

// plainPicture is what Picture should answer of what may be, by the chapter's words, and all choices that it goes by.
func plainPicture(s api.Sequence, h api.Head, frame, past, next api.Frame) ([]byte, api.Frame, []api.Choice) {
	f := blank(s)
	behind, beyond := vectors{}, vectors{}
	w := &bits.Writer{}
	var l []api.Choice
	for _, at := range order(s) {
		p, x, y := at[0], 4*at[1], 4*at[2]
		guesses := [2]api.Vector{behind.guess(at), beyond.guess(at)}
		a := asked{h, f, past, next, p, x, y, plane.Get(frame, p, x, y), guesses}.plain()
		if a.e != api.OK {
			panic(a.e)
		}
		if e := block.Write(w, h.Kind, a.c, guesses[0], guesses[1]); e != api.OK {
			panic(e)
		}
		f = plane.Put(f, p, x, y, a.made)
		behind[at], beyond[at] = a.c.Past, a.c.Next
		l = append(l, a.c)
	}
	w.End()
	return w.Bytes(), f, l
}
