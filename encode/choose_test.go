package encode

import (
	"bytes"
	"math"
	"runtime"
	"testing"

	"clapboard/api"
	"clapboard/intra"
	"clapboard/motion"
	"clapboard/plane"
	"clapboard/quant"
)

// checkChoose holds Choose to the chapter's words.
func checkChoose(t *testing.T, a asked) {
	t.Helper()
	if got, want := a.choose(), a.plain(); got != want {
		t.Fatalf("%+v, plane %d at %d, %d, %v, guesses %v: %+v, not %+v", a.h, a.p, a.x, a.y, a.b, a.guesses, got, want)
	}
}

// checkRefused: Choose answers nothing but an error.
func checkRefused(t *testing.T, a asked, want api.Errno) {
	t.Helper()
	if got := a.choose(); got != (answer{e: want}) {
		t.Fatalf("%+v, plane %d at %d, %d, guesses %v: %+v, not %d", a.h, a.p, a.x, a.y, a.guesses, got, want)
	}
}

// P14.1: blocks by hand, of a picture of itself, by the quality 0: the modes, in their order, and the levels of what is left.
func TestChooseWithin(t *testing.T) {
	s := sized(16, 16)
	// Above the block at 4, 4 stand 10 20 30 40; to its left 50 60 70 80.
	f := flat(s, [3]byte{7, 9, 11})
	f = plane.Put(f, 0, 4, 3, api.Block{10, 20, 30, 40})
	for i := range 4 {
		f.Planes[0][16*(4+i)+3] = byte(50 + 10*i)
	}
	down := api.Block{10, 20, 30, 40, 10, 20, 30, 40, 10, 20, 30, 40, 10, 20, 30, 40}
	right := api.Block{50, 50, 50, 50, 60, 60, 60, 60, 70, 70, 70, 70, 80, 80, 80, 80}
	slant := api.Block{30, 35, 40, 45, 35, 40, 45, 50, 40, 45, 50, 55, 45, 50, 55, 60}
	one, two := down, down
	one[0], one[15] = 11, 43
	two[5] = 22
	for i, c := range []struct {
		p, x, y int
		b       api.Block
		want    api.Choice
	}{
		{0, 4, 4, full(45), api.Choice{}},
		{0, 4, 4, down, api.Choice{Mode: api.MDown}},
		{0, 4, 4, right, api.Choice{Mode: api.MRight}},
		{0, 4, 4, slant, api.Choice{Mode: api.MSlant}},
		{0, 4, 4, full(47), api.Choice{Levels: api.Block{32}}},
		{0, 4, 4, one, api.Choice{Mode: api.MDown, Levels: api.Block{4, -2, 4, -2, -2, 4, -2, 4, 4, -2, 4, -2, -2, 4, -2, 4}}},
		{0, 4, 4, two, api.Choice{Mode: api.MDown, Levels: api.Block{2, 2, -2, -2, 2, 2, -2, -2, -2, -2, 2, 2, -2, -2, 2, 2}}},
		// At the rim all modes tell 128: of several the first one.
		{0, 0, 0, full(128), api.Choice{}},
		{1, 0, 0, full(126), api.Choice{Levels: api.Block{-32}}},
		{2, 0, 0, down, api.Choice{Levels: api.Block{16 * (25 - 128), -160, 0, -80}}},
		// Within flat samples too.
		{0, 12, 12, full(7), api.Choice{}},
		{1, 4, 4, full(9), api.Choice{}},
		{2, 4, 4, full(10), api.Choice{Levels: api.Block{-16}}},
		// Above stands 9, and 128 to the left; and the other way round.
		{1, 0, 4, full(9), api.Choice{Mode: api.MDown}},
		{1, 4, 0, full(9), api.Choice{Mode: api.MRight}},
		{1, 4, 0, full(69), api.Choice{}},
	} {
		// Neither both other frames nor the guesses matter.
		for _, other := range []api.Frame{{}, flat(s, [3]byte{45, 128, 10})} {
			for _, v := range []api.Vector{none, of(99, math.MinInt)} {
				got := asked{api.Head{}, f, other, other, c.p, c.x, c.y, c.b, [2]api.Vector{v, v}}.choose()
				if got != (answer{c: c.want, made: c.b}) {
					t.Errorf("%d: %+v, not %+v", i, got, c.want)
				}
			}
		}
	}
}

// patch is a block of a frame by a vector.
func patch(f api.Frame, p, x, y int, v api.Vector) api.Block {
	b, e := motion.Predict(f, p, x, y, v)
	if e != api.OK {
		panic(e)
	}
	return b
}

// P14.1: a block that is as past has it, or as next has it, by vectors beside the guesses, is told so, without levels, by each quality; one that is as both together have it too, or better.
func TestChooseAsOthersHaveIt(t *testing.T) {
	n := numbers(41)
	s := sized(64, 64)
	f, past, next := n.frame(s), n.frame(s), n.frame(s)
	for range 100 {
		// No vector leads up to a rim, so that no two of them tell the same.
		v, w := of(n.below(41)-20, n.below(41)-20), of(n.below(41)-20, n.below(41)-20)
		p, x, y := n.below(3), 12+n.below(3), 12+n.below(3)
		guesses := [2]api.Vector{of(v.X+n.below(5)-2, v.Y+n.below(5)-2), of(w.X+n.below(5)-2, w.Y+n.below(5)-2)}
		behind, beyond := patch(past, p, x, y, v), patch(next, p, x, y, w)
		for _, c := range []struct {
			kind int
			b    api.Block
			want api.Choice
		}{
			{1, behind, api.Choice{Mode: api.MPast, Past: v}},
			{2, behind, api.Choice{Mode: api.MPast, Past: v}},
			{2, beyond, api.Choice{Mode: api.MNext, Next: w}},
		} {
			got := asked{api.Head{Kind: c.kind, Quality: n.below(21)}, f, past, next, p, x, y, c.b, guesses}.choose()
			if got != (answer{c: c.want, made: c.b}) {
				t.Fatalf("%v: %+v, not %+v", guesses, got, c.want)
			}
		}
		checkChoose(t, asked{api.Head{Kind: 2}, f, past, next, p, x, y, motion.Both(behind, beyond), guesses})
	}
}

// P14.1: neither frame has the block, but both together have, by the vectors that each one leaves the least by itself: by hand.
func TestChooseBoth(t *testing.T) {
	s := sized(16, 16)
	f, past, next := flat(s, [3]byte{200, 0, 90}), flat(s, [3]byte{60, 7, 0}), flat(s, [3]byte{81, 200, 255})
	for p, mid := range []int{71, 104, 128} {
		// All vectors are alike: the first one is that of the least Y, and X.
		c := api.Choice{Mode: api.MBoth, Past: of(-2, -2), Next: of(3, -6)}
		a := asked{api.Head{Kind: 2, Quality: 3}, f, past, next, p, 4, 4, full(mid), [2]api.Vector{none, of(5, -4)}}
		if got := a.choose(); got != (answer{c: c, made: full(mid)}) {
			t.Errorf("plane %d: %+v, not %+v", p, got, c)
		}
		// What is left is what the mean leaves: 2, sixteen times, in steps of 4.
		a.b = full(mid + 2)
		c.Levels = api.Block{8}
		if got := a.choose(); got != (answer{c: c, made: full(mid + 2)}) {
			t.Errorf("plane %d: %+v, not %+v", p, got, c)
		}
	}
	// Both rise by 4 a sample: past is nearest one sample to the right, next one to the left, of what is between them.
	var b api.Block
	for i := range past.Planes[0] {
		past.Planes[0][i], next.Planes[0][i] = byte(4*(i%16)), byte(4*(i%16)+40)
	}
	for i := range b {
		b[i] = 4*(4+i%4) + 20
	}
	want := api.Choice{Mode: api.MBoth, Past: of(2, -2), Next: of(-2, -2)}
	if got := (asked{api.Head{Kind: 2}, f, past, next, 0, 4, 4, b, [2]api.Vector{}}).choose(); got != (answer{c: want, made: b}) {
		t.Errorf("%+v, not %+v", got, want)
	}
}

// P14.1: of candidates that cost alike the first one is chosen: the picture's own, past, next, both.
func TestChooseFirstOfSeveral(t *testing.T) {
	s := sized(16, 16)
	at := func(n int) api.Frame { return flat(s, [3]byte{byte(n), byte(n), byte(n)}) }
	for i, c := range []struct {
		kind             int
		own, past, next  int
		b                int
		mode, cost, left int
	}{
		{1, 50, 50, 9, 50, api.MMean, 0, 0},
		{1, 50, 50, 9, 90, api.MMean, 640, 640},
		{1, 48, 52, 50, 50, api.MMean, 32, 32}, // from either side
		{1, 52, 48, 50, 50, api.MMean, 32, -32},
		{1, 47, 52, 50, 50, api.MPast, 32, -32},
		{1, 48, 51, 50, 50, api.MPast, 16, -16},
		{2, 50, 50, 50, 50, api.MMean, 0, 0},
		{2, 50, 50, 50, 0, api.MMean, 800, -800},
		{2, 48, 52, 52, 50, api.MMean, 32, 32},
		{2, 48, 46, 54, 48, api.MMean, 0, 0},
		{2, 20, 46, 54, 50, api.MBoth, 0, 0},
		{2, 20, 46, 54, 49, api.MBoth, 16, -16},
		{2, 20, 50, 50, 50, api.MPast, 0, 0},
		{2, 20, 50, 50, 57, api.MPast, 112, 112},
		{2, 20, 52, 48, 50, api.MBoth, 0, 0},
		{2, 20, 50, 49, 50, api.MPast, 0, 0}, // both is 50 too
		{2, 20, 49, 50, 50, api.MNext, 0, 0}, // both is 50 too
		{2, 20, 51, 49, 51, api.MPast, 0, 0},
		{2, 20, 40, 44, 45, api.MNext, 16, 16},
		{2, 20, 44, 40, 45, api.MPast, 16, 16},
		{2, 20, 47, 53, 47, api.MPast, 0, 0},
		{2, 20, 47, 53, 53, api.MNext, 0, 0},
		{2, 48, 20, 52, 50, api.MMean, 32, 32},
		{2, 49, 20, 52, 50, api.MMean, 16, 16},
		{2, 47, 20, 52, 50, api.MNext, 32, -32},
		{2, 48, 40, 64, 50, api.MMean, 32, 32}, // both is 52
		{2, 47, 40, 64, 50, api.MBoth, 32, -32},
	} {
		for p := range 3 {
			h := api.Head{Kind: c.kind}
			a := asked{h, at(c.own), at(c.past), at(c.next), p, 4, 4, full(c.b), [2]api.Vector{}}
			want := api.Choice{Mode: c.mode, Levels: api.Block{c.left}}
			if c.mode == api.MPast || c.mode == api.MBoth {
				want.Past = of(-2, -2)
			}
			if c.mode == api.MNext || c.mode == api.MBoth {
				want.Next = of(-2, -2)
			}
			// What is left of sixteen numbers alike is one coefficient.
			if got := a.choose(); got != (answer{c: want, made: full(c.b)}) {
				t.Errorf("%d: plane %d: %+v, not %+v", i, p, got, want)
			}
			if max(c.left, -c.left) != c.cost {
				t.Errorf("%d: the row is none", i)
			}
		}
	}
}

// P14.1: the past's vector is beside the first guess, the next one's beside the second one, and neither the other way round.
func TestChooseGuesses(t *testing.T) {
	n := numbers(42)
	s := sized(64, 64)
	f, past, next := n.frame(s), n.frame(s), n.frame(s)
	for range 60 {
		v := n.vector()
		w := of(-v.X, v.Y)
		x, y := 4*(4+n.below(4)), 4*(4+n.below(4))
		if max(v.X, -v.X) < 3 {
			continue // both are beside one another
		}
		behind, beyond := patch(past, 0, x, y, v), patch(next, 0, x, y, w)
		a := asked{api.Head{Kind: 2}, f, past, next, 0, x, y, behind, [2]api.Vector{v, w}}
		if got := a.choose(); got != (answer{c: api.Choice{Mode: 4, Past: v}, made: behind}) {
			t.Fatalf("%v: %+v", v, got)
		}
		a.b = beyond
		if got := a.choose(); got != (answer{c: api.Choice{Mode: 5, Next: w}, made: beyond}) {
			t.Fatalf("%v: %+v", v, got)
		}
		a.guesses = [2]api.Vector{w, v}
		if got := a.choose(); got.e != api.OK || got.c.Past == v || got.c.Next == w {
			t.Fatalf("%v: %+v", v, got)
		}
		// Three away is too far.
		a.guesses = [2]api.Vector{of(v.X, v.Y), of(w.X, w.Y-3+6*n.below(2))}
		if got := a.choose(); got.e != api.OK && got.e != api.ErrPicture || got.c.Next == w {
			t.Fatalf("%v: %+v", v, got)
		}
	}
}

// P14.1: Choose is what the chapter's words make of it: of each size, kind, quality and plane, at each place.
func TestChooseAsTheWords(t *testing.T) {
	n := numbers(43)
	for _, s := range sizes {
		for kind := range 3 {
			for quality := range 21 {
				frame, past, next := n.film(s)
				f := n.like(frame, 9)
				p := n.below(3)
				x, y := n.below(s.W), n.below(s.H)
				b := plane.Get(frame, p, x, y)
				guesses := [2]api.Vector{n.vector(), n.vector()}
				if n.below(2) == 0 {
					guesses = [2]api.Vector{of(n.below(3)-1, n.below(3)-1), of(n.below(3)-1, n.below(3)-1)}
				}
				checkChoose(t, asked{api.Head{Kind: kind, Quality: quality}, f, past, next, p, x, y, b, guesses})
				checkChoose(t, asked{api.Head{Kind: kind, Quality: quality}, f, past, next, p, x, y, n.block(), guesses})
			}
		}
	}
}

// P14.1: the frames need not be of one size, nor need a place be one of a block.
func TestChooseUnlikeFrames(t *testing.T) {
	n := numbers(44)
	for _, l := range [][3]api.Sequence{{sizes[0], sizes[7], sizes[2]}, {sizes[7], sizes[0], sizes[4]}, {sizes[3], sizes[3], sizes[0]}} {
		f, past, next := n.hills(l[0]), n.hills(l[1]), n.hills(l[2])
		for kind := range 3 {
			for p := range 3 {
				for _, x := range []int{0, 1, 3, 4, 31, 60, 63, 64} {
					for _, y := range []int{0, 2, 5, 8, 33, 63, 64} {
						checkChoose(t, asked{api.Head{Kind: kind, Quality: 2}, f, past, next, p, x, y, plane.Get(past, p, x, y), [2]api.Vector{}})
					}
				}
			}
		}
	}
}

// P14.1: a block is at most quant.Bound beside what is made of it, by the quality 0 it is that; whatever the other numbers of the head are.
func TestChooseHeads(t *testing.T) {
	n := numbers(45)
	s := sized(16, 16)
	f, past, next := n.film(s)
	for kind := range 3 {
		for quality := range 21 {
			bound, _ := quant.Bound(quality)
			b := n.block()
			a := asked{api.Head{Kind: kind, Quality: quality}, f, past, next, n.below(3), 4, 4, b, [2]api.Vector{}}
			want := a.choose()
			for i, m := range want.made {
				if m-b[i] > bound || b[i]-m > bound || m < 0 || m > 255 {
					t.Fatalf("%+v: %v, not %v", a.h, want.made, b)
				}
			}
			for _, h := range rightHeads(kind, quality) {
				if a.h = h; a.choose() != want {
					t.Fatalf("%+v: %+v, not %+v", h, a.choose(), want)
				}
			}
		}
	}
}

// ends are the blocks of the least and of the greatest numbers, and others beyond all samples.
func ends() []api.Block {
	var l []api.Block
	for _, n := range []int{math.MinInt, math.MinInt + 1, -1<<32 - 5, -1<<20 - 1, -1 << 20, -1<<20 + 1, -256, -1, 0, 255, 256, 1<<20 - 1, 1 << 20, 1<<20 + 1, 1<<32 + 5, math.MaxInt - 1, math.MaxInt} {
		l = append(l, full(n), api.Block{5: n}, api.Block{n, -n, n, -n, n, -n, n, -n})
	}
	mixed := api.Block{}
	for i := range mixed {
		mixed[i] = []int{math.MinInt, math.MaxInt}[i%2]
	}
	return append(l, mixed)
}

// P14.1: blocks of the least and of the greatest numbers are clamped, and told as far as levels go.
func TestChooseEnds(t *testing.T) {
	n := numbers(46)
	s := sized(16, 8)
	f, past, next := n.film(s)
	for kind := range 3 {
		for _, quality := range []int{0, 1, 20} {
			for _, b := range ends() {
				checkChoose(t, asked{api.Head{Kind: kind, Quality: quality}, f, past, next, n.below(3), 4, 0, b, [2]api.Vector{}})
			}
		}
	}
	for _, c := range []struct{ number, quality, level, made int }{
		{math.MaxInt, 0, 1 << 20, 255}, {math.MinInt, 0, -1 << 20, 0}, {math.MaxInt, 20, (1<<20 + 96) / 192, 255}, {math.MinInt, 20, -(1<<20 + 96) / 192, 0}, {255, 0, 16 * 127, 255}, {-1, 0, -16 * 129, 0},
	} {
		got := asked{h: api.Head{Quality: c.quality}, f: f, b: full(c.number)}.choose()
		if got != (answer{c: api.Choice{Levels: api.Block{c.level}}, made: full(c.made)}) {
			t.Errorf("%+v: %+v", c, got)
		}
	}
}

// P14.1: a head that may not be is told ahead of all else.
func TestChooseWrongHeads(t *testing.T) {
	n := numbers(47)
	s := sized(16, 8)
	f, past, next := n.film(s)
	for _, h := range wrongHeads() {
		checkRefused(t, asked{h, f, past, next, 0, 4, 4, n.block(), [2]api.Vector{}}, api.ErrHead)
		checkRefused(t, asked{h, api.Frame{}, api.Frame{}, api.Frame{}, 3, -1, 65, n.block(), [2]api.Vector{of(99, 0), of(0, 99)}}, api.ErrHead)
		checkRefused(t, asked{h: h}, api.ErrHead)
	}
}

// P14.1: ErrPicture, if there is no mode: of a frame that may not be, of no plane, and of a place outside, whatever both others are.
func TestChooseNoMode(t *testing.T) {
	n := numbers(48)
	s := sized(16, 8)
	f, past, next := n.film(s)
	for kind := range 3 {
		h := api.Head{Kind: kind}
		for _, wrong := range wrongFrames() {
			checkRefused(t, asked{h, wrong, past, next, 0, 4, 4, n.block(), [2]api.Vector{}}, api.ErrPicture)
			checkRefused(t, asked{h, wrong, wrong, wrong, 0, 4, 4, n.block(), [2]api.Vector{}}, api.ErrPicture)
		}
		for _, p := range append([]int{3, 4, 256}, far...) {
			checkRefused(t, asked{h, f, past, next, p, 4, 4, n.block(), [2]api.Vector{}}, api.ErrPicture)
		}
		for _, place := range append([]int{65, 68, 128}, far...) {
			checkRefused(t, asked{h, f, past, next, 0, place, 4, n.block(), [2]api.Vector{}}, api.ErrPicture)
			checkRefused(t, asked{h, f, past, next, 2, 4, place, n.block(), [2]api.Vector{}}, api.ErrPicture)
			checkRefused(t, asked{h, f, past, next, 1, place, place, n.block(), [2]api.Vector{}}, api.ErrPicture)
		}
		for _, p := range []int{0, 1, 2} {
			for _, place := range []int{0, 1, 63, 64} {
				checkChoose(t, asked{h, f, past, next, p, place, 64 - place, n.block(), [2]api.Vector{}})
			}
		}
	}
}

// P14.1: ErrPicture, if a search that is needed finds no vector, as its frame may not be; one that is not needed may be any.
func TestChooseNoFrame(t *testing.T) {
	n := numbers(49)
	s := sized(16, 8)
	f, past, next := n.film(s)
	for _, wrong := range wrongFrames() {
		for kind := range 3 {
			// Even where the picture's own mode leaves nothing.
			for _, b := range []api.Block{n.block(), full(128), patch(past, 0, 0, 0, none), patch(next, 0, 0, 0, none)} {
				h := api.Head{Kind: kind, Quality: 1}
				bare := asked{h, f, wrong, next, 0, 0, 0, b, [2]api.Vector{}}
				if kind > 0 {
					checkRefused(t, bare, api.ErrPicture)
				} else {
					checkChoose(t, bare)
				}
				bare = asked{h, f, past, wrong, 0, 0, 0, b, [2]api.Vector{}}
				if kind > 1 {
					checkRefused(t, bare, api.ErrPicture)
				} else {
					checkChoose(t, bare)
				}
			}
		}
	}
}

// P14.1: guesses that are no vectors: just beside them there may be some; farther away there is none, of a search that is needed.
func TestChooseGuessesThatAreNone(t *testing.T) {
	n := numbers(50)
	s := sized(16, 8)
	f, past, next := n.film(s)
	b := patch(past, 0, 4, 4, of(5, 5))
	far := append([]int{-35, -34, 34, 35, 1<<32 - 34}, far[:11]...)
	far = append(far, 1<<30+1, math.MaxInt32, 1<<32, 1<<32+8, math.MaxInt-1, math.MaxInt)
	for kind := range 3 {
		h := api.Head{Kind: kind}
		for _, k := range far {
			for _, v := range []api.Vector{of(k, 0), of(0, k), of(k, k), of(31, k), of(k, -33)} {
				a := asked{h, f, past, next, 0, 4, 4, b, [2]api.Vector{v, none}}
				if kind > 0 {
					checkRefused(t, a, api.ErrPicture)
				} else {
					checkChoose(t, a)
				}
				a.guesses = [2]api.Vector{none, v}
				if kind > 1 {
					checkRefused(t, a, api.ErrPicture)
				} else {
					checkChoose(t, a)
				}
			}
		}
		for _, v := range []api.Vector{of(33, 33), of(-33, 33), of(33, -33), of(-33, -33), of(32, 0), of(0, -32)} {
			for _, w := range []api.Vector{none, v} {
				checkChoose(t, asked{h, f, past, next, 0, 4, 4, b, [2]api.Vector{v, w}})
				checkChoose(t, asked{h, f, past, next, 0, 4, 4, b, [2]api.Vector{w, v}})
			}
		}
	}
	corner := asked{api.Head{Kind: 1}, flat(s, [3]byte{}), past, next, 0, 4, 4, patch(past, 0, 4, 4, of(31, -31)), [2]api.Vector{of(33, -33), {}}}
	if got := corner.choose(); got.e != api.OK || got.c != (api.Choice{Mode: 4, Past: of(31, -31)}) {
		t.Errorf("%+v", got)
	}
}

// P14.1, R5: the answer is the same however often it is asked, and however many are at work at once.
func TestChooseAgain(t *testing.T) {
	defer runtime.GOMAXPROCS(runtime.GOMAXPROCS(0))
	n := numbers(51)
	s := sized(16, 16)
	for _, kind := range []int{0, 1, 2} {
		frame, past, next := n.film(s)
		f := n.like(frame, 20)
		l := []asked{
			{api.Head{Kind: kind, Quality: 5}, f, past, next, 0, 4, 4, plane.Get(frame, 0, 4, 4), [2]api.Vector{}},
			{api.Head{Kind: kind, Quality: 5}, f, f, f, 0, 4, 4, full(128), [2]api.Vector{}},
			{api.Head{Kind: kind}, flat(s, [3]byte{7, 7, 7}), flat(s, [3]byte{9, 9, 9}), flat(s, [3]byte{9, 9, 9}), 0, 4, 4, full(8), [2]api.Vector{}},
			{api.Head{Kind: kind}, f, past, api.Frame{}, 0, 4, 4, full(8), [2]api.Vector{}},
		}
		for _, many := range []int{1, 2, 3, 8} {
			runtime.GOMAXPROCS(many)
			for _, a := range l {
				want := a.plain()
				for range 100 {
					if got := a.choose(); got != want {
						t.Fatalf("%+v, not %+v", got, want)
					}
				}
			}
		}
	}
}

// P14.1: nobody is at work any more when the call answers, be it with an error.
func TestChooseJoined(t *testing.T) {
	n := numbers(52)
	s := sized(16, 16)
	frame, past, next := n.film(s)
	was := runtime.NumGoroutine()
	for i := range 600 {
		a := asked{api.Head{Kind: i % 3}, frame, past, next, 0, 4, 4, n.block(), [2]api.Vector{}}
		switch i % 5 {
		case 1:
			a.past = api.Frame{}
		case 2:
			a.f = api.Frame{}
		case 3:
			a.guesses[1].X = 99
		case 4:
			a.f, a.past, a.next = api.Frame{}, api.Frame{}, api.Frame{}
		}
		a.choose()
		// Nobody reads the frames any more, so that they may be written: the race detector would tell.
		soil(frame)
		soil(past)
		soil(next)
	}
	// One that has just sent its last may still be about to end.
	for tries := 0; runtime.NumGoroutine() > was; tries++ {
		if tries > 1000000 {
			t.Fatalf("%d are still there, not %d", runtime.NumGoroutine(), was)
		}
		runtime.Gosched()
	}
}

// P14.1, R4: the frames stay as they were, and so does their spare room.
func TestChooseKeeps(t *testing.T) {
	n := numbers(53)
	s := sized(16, 8)
	for kind := range 3 {
		frame, past, next := n.film(s)
		f, fRoom := roomy(frame)
		p, pRoom := roomy(past)
		q, qRoom := roomy(next)
		fWas, pWas, qWas := bytes.Clone(fRoom), bytes.Clone(pRoom), bytes.Clone(qRoom)
		for range 20 {
			asked{api.Head{Kind: kind}, f, p, q, n.below(3), 4, 4, n.block(), [2]api.Vector{}}.choose()
		}
		if !bytes.Equal(fRoom, fWas) || !bytes.Equal(pRoom, pWas) || !bytes.Equal(qRoom, qWas) {
			t.Fatal("not as they were")
		}
	}
}

// P14.1: what is chosen leaves no more than any candidate does.
func TestChooseLeast(t *testing.T) {
	n := numbers(54)
	s := sized(24, 40)
	modes := [api.Modes]int{}
	for range 400 {
		frame, past, next := n.film(s)
		p := n.below(3)
		x, y := 4*n.below(3), 4*n.below(5)
		a := asked{api.Head{Kind: n.below(3), Quality: n.below(21)}, n.like(frame, 20), past, next, p, x, y, plane.Get(frame, p, x, y), [2]api.Vector{}}
		got := a.choose()
		if got.e != api.OK {
			t.Fatal(got.e)
		}
		cost := func(c api.Choice) int {
			switch c.Mode {
			case 4:
				return intra.Cost(patch(past, p, x, y, c.Past), a.b)
			case 5:
				return intra.Cost(patch(next, p, x, y, c.Next), a.b)
			case 6:
				return intra.Cost(motion.Both(patch(past, p, x, y, c.Past), patch(next, p, x, y, c.Next)), a.b)
			}
			guess, _ := intra.Predict(a.f, p, x, y, c.Mode)
			return intra.Cost(guess, a.b)
		}
		for _, c := range a.plainChoices() {
			if cost(c) < cost(got.c) {
				t.Fatalf("%+v leaves less than %+v", c, got.c)
			}
		}
		modes[got.c.Mode]++
	}
	for mode, many := range modes {
		if many == 0 {
			t.Errorf("the mode %d was never chosen", mode)
		}
	}
}
