package stream

import (
	"bytes"
	"runtime"
	"slices"
	"sync"
	"testing"

	"clapboard/api"
	"clapboard/encode"
	"clapboard/plane"
	"clapboard/quant"
)

// wrongPlans are plans that have one number that may not be, or several.
func wrongPlans() []api.Plan {
	l := []api.Plan{{}, {Quality: 21}, {Group: 17, Between: 4, Quality: 21}, {Group: -1, Between: -1, Quality: -1}}
	for _, n := range append([]int{0, 17, 18, 32, 200}, far...) {
		l = append(l, api.Plan{Group: n, Between: 1, Quality: 1})
	}
	for _, n := range append([]int{4, 5, 6, 16, 200}, far...) {
		l = append(l, api.Plan{Group: 4, Between: n, Quality: 1})
	}
	for _, n := range append([]int{21, 22, 32, 200}, far...) {
		l = append(l, api.Plan{Group: 4, Between: 1, Quality: n})
	}
	return l
}

// strangers are frames that do not fit a sequence of 16 by 8.
func strangers() []api.Frame {
	s := sized(16, 8)
	l := []api.Frame{{}, {W: 16, H: 8}, flat(sized(8, 8), 1), flat(sized(8, 16), 2), flat(sized(16, 16), 3), flat(sized(24, 8), 4), flat(sized(64, 64), 5)}
	for p := range 3 {
		short, long, bare := flat(s, 6), flat(s, 7), flat(s, 8)
		short.Planes[p] = short.Planes[p][1:]
		long.Planes[p] = append(long.Planes[p], 0)
		bare.Planes[p] = nil
		l = append(l, short, long, bare)
	}
	for _, side := range append([]int{0, 1, 7, 9, 15, 17, 72}, far...) {
		wide, high := flat(s, 9), flat(s, 10)
		wide.W, high.H = side, side
		l = append(l, wide, high)
	}
	// As many samples, of sides that may be one by one.
	turned := flat(s, 11)
	turned.W, turned.H = 8, 16
	return append(l, turned)
}

// samePictures tells whether two films' pictures are the same.
func samePictures(a, b [][]byte) bool {
	return slices.EqualFunc(a, b, bytes.Equal)
}

// checkEncode holds Encode to pictures and frames.
func checkEncode(t *testing.T, s api.Sequence, p api.Plan, frames []api.Frame, pictures [][]byte, made []api.Frame) {
	t.Helper()
	l, f, e := Encode(s, p, frames)
	if e != api.OK || !samePictures(l, pictures) || !slices.EqualFunc(f, made, same) {
		t.Fatalf("%+v, %+v, %d frames: %d, %d pictures, %d frames, or not the same", s, p, len(frames), e, len(l), len(f))
	}
}

// checkNoEncode: there is nothing but an error.
func checkNoEncode(t *testing.T, s api.Sequence, p api.Plan, frames []api.Frame, want api.Errno) {
	t.Helper()
	if l, f, e := Encode(s, p, frames); e != want || len(l) != 0 || len(f) != 0 {
		t.Fatalf("%+v, %+v, %d frames: %d, %d pictures, %d frames, not %d", s, p, len(frames), e, len(l), len(f), want)
	}
}

// encoded is a film that Encode answers, and its frames.
func encoded(t *testing.T, s api.Sequence, p api.Plan, frames []api.Frame) ([][]byte, []api.Frame) {
	t.Helper()
	l, made, e := Encode(s, p, frames)
	if e != api.OK {
		t.Fatalf("%+v, %+v, %d frames: %d", s, p, len(frames), e)
	}
	return l, made
}

// P16.3: the chapter's example.
func TestEncodeExample(t *testing.T) {
	n := numbers(21)
	for _, s := range sizes {
		l, _ := encoded(t, s, api.Plan{Group: 3, Between: 1}, n.frames(s, 3))
		h, e := Heads(l)
		if e != api.OK || text(h) != "I0 P2 B1" {
			t.Errorf("%s, %d", text(h), e)
		}
	}
}

// P16.3: films by hand: which picture is of which kind, and its head; the Full is 0, and the quality is the plan's.
func TestEncodeHeads(t *testing.T) {
	n := numbers(22)
	s := sized(8, 8)
	for _, c := range []struct {
		many, group, between int
		want                 string
	}{
		{1, 1, 0, "I0"}, {1, 16, 3, "I0"}, {3, 1, 3, "I0 I1 I2"}, {4, 2, 3, "I0 P1 I2 P3"}, {4, 4, 0, "I0 P1 P2 P3"}, {5, 5, 1, "I0 P2 B1 P4 B3"}, {5, 5, 2, "I0 P3 B1 B2 P4"},
		{5, 5, 3, "I0 P4 B1 B2 B3"}, {5, 3, 1, "I0 P2 B1 I3 P4"}, {6, 3, 1, "I0 P2 B1 I3 P5 B4"}, {9, 6, 3, "I0 P4 B1 B2 B3 P5 I6 P8 B7"}, {7, 16, 1, "I0 P2 B1 P4 B3 P6 B5"},
	} {
		for _, quality := range []int{0, 1, 7, 20} {
			p := api.Plan{Group: c.group, Between: c.between, Quality: quality}
			l, made := encoded(t, s, p, n.frames(s, c.many))
			h, e := Heads(l)
			if e != api.OK || text(h) != c.want || len(made) != c.many {
				t.Fatalf("%+v: %s, %d, not %s", p, text(h), e, c.want)
			}
			for _, head := range h {
				if head.Quality != quality || head.Full != 0 {
					t.Fatalf("%+v: %+v", p, head)
				}
			}
		}
	}
}

// P16.3: films of all plans, as the chapter's words make them: each picture of the frames that were made of both others.
func TestEncodeAsTheWords(t *testing.T) {
	n := numbers(23)
	s := sized(8, 8)
	for group := 1; group <= 16; group++ {
		for between := range 4 {
			for _, many := range []int{1, 2, 5, 17} {
				p := api.Plan{Group: group, Between: between, Quality: n.below(21)}
				frames := n.frames(s, many)
				pictures, made := plainEncode(t, s, planned(t, many, p), frames)
				checkEncode(t, s, p, frames, pictures, made)
			}
		}
	}
}

// P16.3: films of each size, and of each quality.
func TestEncodeSizes(t *testing.T) {
	n := numbers(24)
	for _, s := range sizes {
		for quality := range 21 {
			if s.W*s.H > 300 && quality%10 > 0 {
				continue
			}
			p := api.Plan{Group: 4, Between: 2, Quality: quality}
			frames := n.frames(s, 5)
			pictures, made := plainEncode(t, s, planned(t, 5, p), frames)
			checkEncode(t, s, p, frames, pictures, made)
		}
	}
}

// P16.3: as many frames as may be, and more.
func TestEncodeMany(t *testing.T) {
	n := numbers(25)
	s := sized(8, 8)
	frames := n.frames(s, 202)
	for _, p := range []api.Plan{{Group: 1}, {Group: 16, Between: 3, Quality: 6}, {Group: 7, Between: 1, Quality: 20}} {
		for _, many := range []int{199, 200} {
			pictures, made := plainEncode(t, s, planned(t, many, p), frames[:many])
			checkEncode(t, s, p, frames[:many], pictures, made)
		}
		for _, many := range []int{0, 201, 202} {
			checkNoEncode(t, s, p, frames[:many], api.ErrOrder)
		}
		checkNoEncode(t, s, p, nil, api.ErrOrder)
		checkNoEncode(t, s, p, make([]api.Frame, 1<<16), api.ErrOrder)
	}
}

// P16.3: sequences that may be, at their edges: they change no picture.
func TestEncodeSequences(t *testing.T) {
	n := numbers(26)
	p := api.Plan{Group: 3, Between: 1, Quality: 2}
	frames := n.frames(sized(8, 8), 4)
	pictures, made := plainEncode(t, sized(8, 8), planned(t, 4, p), frames)
	for _, s := range rightSequences() {
		checkEncode(t, s, p, frames, pictures, made)
	}
}

// P16.3: which error stands where several could: the sequence's, ahead of the plan's and the number's, ahead of a frame's.
func TestEncodeErrors(t *testing.T) {
	n := numbers(27)
	s := sized(8, 8)
	right := n.frames(s, 4)
	lists := [][]api.Frame{right, {{}}, {right[0], {}, right[2]}, nil, make([]api.Frame, 201)}
	for _, wrong := range wrongSequences() {
		for _, frames := range lists {
			for _, p := range []api.Plan{{Group: 3}, {}, {Group: 17, Between: -1, Quality: 21}} {
				checkNoEncode(t, wrong, p, frames, api.ErrHead)
			}
		}
		like := flat(s, 1)
		like.W, like.H = wrong.W, wrong.H
		checkNoEncode(t, wrong, api.Plan{Group: 3}, []api.Frame{like, like}, api.ErrHead)
	}
	for _, wrong := range wrongPlans() {
		for _, frames := range lists {
			checkNoEncode(t, s, wrong, frames, api.ErrOrder)
		}
	}
	checkNoEncode(t, s, api.Plan{Group: 1}, []api.Frame{{}}, api.ErrPicture)
	checkNoEncode(t, s, api.Plan{Group: 1}, make([]api.Frame, 200), api.ErrPicture)
}

// P16.3: a frame that does not fit, at each place of each kind.
func TestEncodeStrangers(t *testing.T) {
	n := numbers(28)
	s := sized(16, 8)
	right := n.frames(s, 7)
	for _, p := range []api.Plan{{Group: 1}, {Group: 7}, {Group: 5, Between: 1, Quality: 5}, {Group: 16, Between: 3, Quality: 20}} {
		pictures, made := plainEncode(t, s, planned(t, 7, p), right)
		checkEncode(t, s, p, right, pictures, made)
	}
	p := api.Plan{Group: 5, Between: 1}
	for _, stranger := range strangers() {
		for at := range right {
			frames := slices.Clone(right)
			frames[at] = stranger
			checkNoEncode(t, s, p, frames, api.ErrPicture)
		}
		checkNoEncode(t, s, p, slices.Repeat([]api.Frame{stranger}, 7), api.ErrPicture)
	}
	// Frames that fit one another, but not the sequence.
	for _, other := range sizes {
		if other.W != 16 || other.H != 8 {
			checkNoEncode(t, s, p, n.frames(other, 4), api.ErrPicture)
		}
	}
}

// P16.3, R4: the frames stay as they were, spare room too; the pictures and the frames that are answered share no memory with them, nor with one another.
func TestEncodeKeeps(t *testing.T) {
	n := numbers(29)
	s := sized(8, 8)
	for _, p := range []api.Plan{{Group: 1}, {Group: 4, Between: 2}, {Group: 16, Between: 1, Quality: 9}} {
		frames := make([]api.Frame, 0, 9)
		room := bytes.Repeat([]byte{0xAA}, 7*(64+16+16+9))
		at := 0
		for _, f := range n.frames(s, 7) {
			for p, samples := range f.Planes {
				f.Planes[p] = room[at : at+copy(room[at:], samples)]
				at += len(samples) + 3
			}
			frames = append(frames, f)
		}
		frames[:8][7] = api.Frame{W: 123}
		pictures, made := plainEncode(t, s, planned(t, 7, p), keptAll(frames))
		was := bytes.Clone(room)
		l, f := encoded(t, s, p, frames)
		again, g := encoded(t, s, p, frames)
		if !bytes.Equal(room, was) || frames[:8][7].W != 123 || len(frames[:9][8].Planes[0]) != 0 {
			t.Fatalf("%+v: the frames have changed", p)
		}
		clear(room)
		for at := range again {
			clear(again[at][:cap(again[at])])
			soil(g[at])
		}
		if !samePictures(l, pictures) || !slices.EqualFunc(f, made, same) {
			t.Fatalf("%+v: what is answered shares memory with the frames, or with another answer", p)
		}
		checkApart(t, f)
		checkPicturesApart(t, l)
		for _, b := range l {
			clear(b[:cap(b)])
		}
		if !slices.EqualFunc(f, made, same) {
			t.Fatalf("%+v: frames share memory with pictures", p)
		}
	}
}

// checkPicturesApart: no picture shares memory with another one, spare room too.
func checkPicturesApart(t *testing.T, l [][]byte) {
	t.Helper()
	for at := range l {
		all := l[at][:cap(l[at])]
		was := bytes.Clone(all)
		others := bytes.Join(slices.Concat(l[:at], l[at+1:]), nil)
		clear(all)
		if !bytes.Equal(bytes.Join(slices.Concat(l[:at], l[at+1:]), nil), others) {
			t.Fatalf("the picture %d shares memory with others", at)
		}
		copy(all, was)
	}
}

// P16.3, R5: a film is the same on one processor and on several, and beside others that are made at the same time.
func TestEncodeAlike(t *testing.T) {
	n := numbers(30)
	s := sized(16, 16)
	p := api.Plan{Group: 5, Between: 2, Quality: 3}
	frames := n.frames(s, 7)
	pictures, made := plainEncode(t, s, planned(t, 7, p), frames)
	defer runtime.GOMAXPROCS(runtime.GOMAXPROCS(0))
	for many := 1; many <= 8; many *= 2 {
		runtime.GOMAXPROCS(many)
		var all sync.WaitGroup
		for range 4 {
			all.Go(func() {
				l, f, e := Encode(s, p, frames)
				g, again := Decode(s, l)
				if e != api.OK || again != api.OK || !samePictures(l, pictures) || !slices.EqualFunc(f, made, same) || !slices.EqualFunc(g, made, same) {
					t.Errorf("%d processors: %d, %d, or not the same", many, e, again)
				}
			})
		}
		all.Wait()
	}
}

// P16.5: a film that is encoded is decoded as the frames that were made, each at most the quality's bound beside its own; by the quality 0 it is that.
func TestRound(t *testing.T) {
	n := numbers(31)
	for _, s := range sizes {
		for range 12 {
			p := api.Plan{Group: 1 + n.below(16), Between: n.below(4), Quality: n.below(21) * n.below(2)}
			many := 1 + n.below(12)
			if s.W*s.H > 300 {
				many = 1 + n.below(4)
			}
			frames := n.frames(s, many)
			l, made := encoded(t, s, p, frames)
			checkDecode(t, s, l, made)
			bound, _ := quant.Bound(p.Quality)
			for at, f := range made {
				if far := plane.Far(f, frames[at]); far < 0 || far > bound || p.Quality == 0 && !same(f, frames[at]) {
					t.Fatalf("%+v, %+v: the frame %d is %d beside", s, p, at, far)
				}
			}
		}
	}
}

// P16.5: films of all plans, and of 200 frames.
func TestRoundOfPlans(t *testing.T) {
	n := numbers(32)
	s := sized(8, 8)
	for group := 1; group <= 16; group++ {
		for between := range 4 {
			for _, many := range []int{1, group, group + 1, 3*group - 1} {
				p := api.Plan{Group: group, Between: between, Quality: n.below(21)}
				l, made := encoded(t, s, p, n.frames(s, max(many, 1)))
				checkDecode(t, s, l, made)
			}
		}
	}
	l, made := encoded(t, s, api.Plan{Group: 16, Between: 3, Quality: 4}, n.frames(s, 200))
	checkDecode(t, s, l, made)
}

// P16.3, P16.5: each picture is told beside what was made of the others, not beside what was given: told so, it is decoded as it was made.
func TestEncodeFromWhatIsMade(t *testing.T) {
	s := sized(8, 8)
	// By the quality 20 nothing is left of 5: the first frame is made 128, and so is the next one, which is all of the past one.
	frames := []api.Frame{flat(s, 133), flat(s, 132), flat(s, 131)}
	p := api.Plan{Group: 3, Between: 1, Quality: 20}
	l, made := encoded(t, s, p, frames)
	for at, f := range made {
		if !same(f, flat(s, 128)) {
			t.Errorf("%d: %v", at, f)
		}
	}
	past, _, e := encode.Picture(s, api.Head{Kind: 1, Quality: 20}, frames[2], flat(s, 128), api.Frame{})
	if e != api.OK || !bytes.Equal(l[1][10:], past) {
		t.Errorf("%v, %d", l[1], e)
	}
}
