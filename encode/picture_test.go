package encode

import (
	"bytes"
	"runtime"
	"slices"
	"strconv"
	"strings"
	"testing"

	"clapboard/api"
	"clapboard/bits"
	"clapboard/picture"
	"clapboard/plane"
	"clapboard/quant"
)

// whole are the bits of Whole, by chapter 1's words.
func whole(n int) string {
	m := strconv.FormatInt(int64(n)+1, 2)
	return strings.Repeat("0", len(m)-1) + m
}

// signed are those of Signed.
func signed(n int) string {
	if n > 0 {
		return whole(2*n - 1)
	}
	return whole(-2 * n)
}

// bytesOf are the bytes of bits that are told as a text, with their end.
func bytesOf(s string) []byte {
	w := &bits.Writer{}
	for _, c := range s {
		w.Bit(int(c - '0'))
	}
	w.End()
	return w.Bytes()
}

// checkPicture holds Picture to a payload and a frame.
func checkPicture(t *testing.T, s api.Sequence, h api.Head, frame, past, next api.Frame, payload []byte, want api.Frame) {
	t.Helper()
	b, f, e := Picture(s, h, frame, past, next)
	if e != api.OK || !bytes.Equal(b, payload) || !same(f, want) {
		t.Fatalf("%+v, %+v: %v, %v, %d, not %v, %v", s, h, b, f, e, payload, want)
	}
}

// checkNoPicture: there is nothing but an error.
func checkNoPicture(t *testing.T, s api.Sequence, h api.Head, frame, past, next api.Frame, want api.Errno) {
	t.Helper()
	if b, f, e := Picture(s, h, frame, past, next); e != want || len(b) != 0 || !same(f, api.Frame{}) {
		t.Fatalf("%+v, %+v: %v, %v, %d, not %d", s, h, b, f, e, want)
	}
}

// P14.2: the chapter's example, of each size; of the other kinds too, for what leaves nothing within the picture comes first.
func TestPictureExample(t *testing.T) {
	n := numbers(61)
	for _, s := range sizes {
		grey := flat(s, [3]byte{128, 128, 128})
		for kind := range 3 {
			payload := bytesOf(strings.Repeat("11", len(order(s))))
			checkPicture(t, s, api.Head{Kind: kind, Quality: n.below(21)}, grey, grey, n.frame(s), payload, grey)
		}
	}
	checkPicture(t, sized(8, 8), api.Head{}, flat(sized(8, 8), [3]byte{128, 128, 128}), api.Frame{}, api.Frame{}, []byte{255, 248}, flat(sized(8, 8), [3]byte{128, 128, 128}))
}

// P14.2: pictures of 8 by 8 whose bits are told by hand: four blocks, two a row, of the first plane, and one of each other.
func TestPictureByHand(t *testing.T) {
	n := numbers(62)
	s := sized(8, 8)
	other := n.frame(s)
	v := of(2, -1)
	both := func(mode int, l ...api.Vector) string {
		text := ""
		for _, v := range l {
			text += whole(mode) + signed(v.X) + signed(v.Y) + whole(0)
		}
		return text
	}
	for i, c := range []struct {
		kind       int
		frame      api.Frame
		past, next api.Frame
		bits       string
	}{
		// The first two blocks are guessed by none or one; the third one by both above it, and the fourth one by those left of it and above.
		{1, moved(other, v), other, api.Frame{}, both(4, v, v, none, none, v, v)},
		{2, moved(other, v), other, n.frame(s), both(4, v, v, none, none, v, v)},
		{2, moved(other, v), n.frame(s), other, both(5, v, v, none, none, v, v)},
		{1, other, other, other, both(4, none, none, none, none, none, none)},
		{2, other, other, other, both(4, none, none, none, none, none, none)},
		{2, other, n.frame(s), other, both(5, none, none, none, none, none, none)},
		// A frame of one sample is 128 beside its first block, and then as that is.
		{0, flat(s, [3]byte{130, 128, 127}), api.Frame{}, api.Frame{},
			whole(0) + whole(1) + whole(0) + signed(32) + whole(2) + whole(0) + whole(1) + whole(0) + whole(0) + whole(0) + whole(0) + whole(0) + whole(0) + whole(1) + whole(0) + signed(-16)},
	} {
		checkPicture(t, s, api.Head{Kind: c.kind}, c.frame, c.past, c.next, bytesOf(c.bits), c.frame)
		if t.Failed() {
			t.Errorf("%d", i)
		}
	}
}

// P14.2: blocks stand in the order of chapter 13: the one that is brighter is the first that has levels.
func TestPictureOrder(t *testing.T) {
	for _, s := range sizes[:5] {
		grey := flat(s, [3]byte{128, 128, 128})
		for i, at := range order(s) {
			bright := plane.Put(grey, at[0], 4*at[1], 4*at[2], full(130))
			b, f, e := Picture(s, api.Head{}, bright, api.Frame{}, api.Frame{})
			l, again := picture.Choices(s, api.Head{}, b)
			if e != api.OK || again != api.OK || !same(f, bright) {
				t.Fatal(e, again, f)
			}
			if first := slices.IndexFunc(l, func(c api.Choice) bool { return c != api.Choice{} }); first != i || l[i] != (api.Choice{Levels: api.Block{32}}) {
				t.Fatalf("%+v: the block %d is the %dth: %+v", s, i, first, l[first])
			}
		}
	}
}

// P14.2: pictures of each size, kind and quality are what the chapter's words make of them.
func TestPictureAsTheWords(t *testing.T) {
	n := numbers(63)
	modes := [3][api.Modes]int{}
	for _, s := range sizes {
		for kind := range 3 {
			for quality := range 21 {
				if s.W*s.H > 2000 && quality%7 > 0 {
					continue
				}
				frame, past, next := n.film(s)
				h := api.Head{Kind: kind, Quality: quality}
				payload, made, l := plainPicture(s, h, frame, past, next)
				checkPicture(t, s, h, frame, past, next, payload, made)
				if got, e := picture.Choices(s, h, payload); e != api.OK || !slices.Equal(got, l) {
					t.Fatalf("%+v, %+v: %v, %d, not %v", s, h, got, e, l)
				}
				for _, c := range l {
					modes[kind][c.Mode]++
				}
			}
		}
	}
	for kind, last := range []int{api.MSlant, api.MPast, api.MBoth} {
		for mode, many := range modes[kind] {
			if mode <= last && many == 0 || mode > last && many > 0 {
				t.Errorf("kind %d: the mode %d was chosen %d times", kind, mode, many)
			}
		}
	}
}

// P14.2: the guesses are those of the field at the block, of each plane for itself: vectors that go 2 farther each row of blocks are all found, and each plane begins anew.
func TestPictureGuesses(t *testing.T) {
	n := numbers(64)
	s := sized(64, 64)
	from, other := n.frame(s), n.frame(s)
	frame := blank(s)
	var vectors []api.Vector
	for _, at := range order(s) {
		v := of(1, max(-2*(at[2]+1), -31))
		vectors = append(vectors, v)
		frame = plane.Put(frame, at[0], 4*at[1], 4*at[2], patch(from, at[0], 4*at[1], 4*at[2], v))
	}
	for i, c := range []struct {
		kind       int
		past, next api.Frame
		told       func(v api.Vector) api.Choice
	}{
		{1, from, other, func(v api.Vector) api.Choice { return api.Choice{Mode: api.MPast, Past: v} }},
		{2, from, other, func(v api.Vector) api.Choice { return api.Choice{Mode: api.MPast, Past: v} }},
		{2, other, from, func(v api.Vector) api.Choice { return api.Choice{Mode: api.MNext, Next: v} }},
	} {
		h := api.Head{Kind: c.kind}
		b, f, e := Picture(s, h, frame, c.past, c.next)
		l, again := picture.Choices(s, h, b)
		if e != api.OK || again != api.OK || !same(f, frame) {
			t.Fatal(e, again)
		}
		for k, v := range vectors {
			if l[k] != c.told(v) {
				t.Fatalf("%d: the block at %v: %+v, not %v", i, order(s)[k], l[k], v)
			}
		}
	}
}

// P14.2: a block is predicted from the frame as far as it was made, not from the one that was given.
func TestPictureFromWhatIsMade(t *testing.T) {
	s := sized(16, 8)
	// By the quality 20 nothing is left of 5, so that 128 stands, and goes on.
	frame := flat(s, [3]byte{133, 123, 128})
	payload := bytesOf(strings.Repeat("11", len(order(s))))
	for kind := range 3 {
		checkPicture(t, s, api.Head{Kind: kind, Quality: 20}, frame, blank(s), blank(s), payload, flat(s, [3]byte{128, 128, 128}))
	}
}

// P14.2: ErrHead of a sequence or a head that may not be, whatever the frames are.
func TestPictureHeadErrors(t *testing.T) {
	n := numbers(65)
	s := sized(8, 8)
	f := n.frame(s)
	for kind := range 3 {
		for _, wrong := range wrongSequences() {
			like := f
			like.W, like.H = wrong.W, wrong.H
			for _, g := range []api.Frame{f, like, {}} {
				checkNoPicture(t, wrong, api.Head{Kind: kind}, g, g, g, api.ErrHead)
			}
		}
	}
	for _, wrong := range wrongHeads() {
		checkNoPicture(t, s, wrong, f, f, f, api.ErrHead)
		checkNoPicture(t, s, wrong, api.Frame{}, api.Frame{}, api.Frame{}, api.ErrHead)
		checkNoPicture(t, s, wrong, f, api.Frame{}, f, api.ErrHead)
	}
	checkNoPicture(t, api.Sequence{}, api.Head{Kind: -1}, api.Frame{}, api.Frame{}, api.Frame{}, api.ErrHead)
}

// P14.2: ErrPicture, if the frame does not fit, or one that the kind comes from; one that it does not come from may be any.
func TestPictureStrangers(t *testing.T) {
	n := numbers(66)
	s := sized(16, 8)
	frame, past, next := n.film(s)
	for kind := range 3 {
		h := api.Head{Kind: kind, Quality: 4}
		payload, made, _ := plainPicture(s, h, frame, past, next)
		checkPicture(t, s, h, frame, past, next, payload, made)
		for _, f := range strangers() {
			checkNoPicture(t, s, h, f, past, next, api.ErrPicture)
			checkNoPicture(t, s, h, f, f, f, api.ErrPicture)
			if kind == 0 {
				checkPicture(t, s, h, frame, f, next, payload, made)
				checkPicture(t, s, h, frame, f, f, payload, made)
			} else {
				checkNoPicture(t, s, h, frame, f, next, api.ErrPicture)
				checkNoPicture(t, s, h, frame, f, f, api.ErrPicture)
			}
			if kind < 2 {
				checkPicture(t, s, h, frame, past, f, payload, made)
			} else {
				checkNoPicture(t, s, h, frame, past, f, api.ErrPicture)
			}
		}
	}
}

// P14.2: frames that fit one another, but not the sequence, are none.
func TestPictureOfAnotherSequence(t *testing.T) {
	n := numbers(67)
	for _, s := range sizes {
		for _, other := range sizes {
			if s.W == other.W && s.H == other.H {
				continue
			}
			for kind := range 3 {
				frame, past, next := n.film(other)
				checkNoPicture(t, s, api.Head{Kind: kind}, frame, past, next, api.ErrPicture)
			}
		}
	}
}

// P14.3: the payload is decoded as the frame that was made, which is at most the quality's bound beside the one that was given; by the quality 0 it is that.
func TestPictureRound(t *testing.T) {
	n := numbers(68)
	for _, s := range sizes {
		for kind := range 3 {
			for quality := range 21 {
				if s.W*s.H > 2000 && quality%10 > 0 {
					continue
				}
				frame, past, next := n.film(s)
				h := api.Head{Kind: kind, Quality: quality, Display: n.below(1 << 24), Full: n.below(1 << 30)}
				b, f, e := Picture(s, h, frame, past, next)
				g, again := picture.Decode(s, h, b, past, next)
				bound, _ := quant.Bound(quality)
				if e != api.OK || again != api.OK || !same(f, g) {
					t.Fatalf("%+v, %+v: %d, %d, or it is not decoded as it was made", s, h, e, again)
				}
				if far := plane.Far(f, frame); far > bound || far < 0 || quality == 0 && !same(f, frame) {
					t.Fatalf("%+v, %+v: %d beside, not %d", s, h, far, bound)
				}
			}
		}
	}
}

// P14.3: frames of the darkest and the brightest samples, side by side, are no farther beside either.
func TestPictureRoundOfEnds(t *testing.T) {
	n := numbers(69)
	s := sized(16, 16)
	for kind := range 3 {
		for quality := range 21 {
			frame, past, next := n.frame(s), n.frame(s), n.frame(s)
			for _, f := range []api.Frame{frame, past, next} {
				for _, samples := range f.Planes {
					for i := range samples {
						samples[i] = byte(255 * n.below(2))
					}
				}
			}
			h := api.Head{Kind: kind, Quality: quality}
			b, f, e := Picture(s, h, frame, past, next)
			g, again := picture.Decode(s, h, b, past, next)
			bound, _ := quant.Bound(quality)
			if e != api.OK || again != api.OK || !same(f, g) || plane.Far(f, frame) > bound {
				t.Fatalf("%+v: %d, %d, %d beside", h, e, again, plane.Far(f, frame))
			}
		}
	}
}

// P14.2, P14.3: neither the head's other numbers nor the sequence's change anything.
func TestPictureWhateverIsTold(t *testing.T) {
	n := numbers(70)
	s := sized(8, 8)
	frame, past, next := n.film(s)
	for kind := range 3 {
		for _, quality := range []int{0, 7, 20} {
			h := api.Head{Kind: kind, Quality: quality}
			payload, made, _ := plainPicture(s, h, frame, past, next)
			for _, other := range rightHeads(kind, quality) {
				checkPicture(t, s, other, frame, past, next, payload, made)
			}
			for _, other := range rightSequences() {
				checkPicture(t, other, h, frame, past, next, payload, made)
			}
		}
	}
}

// P14.2, R5: the answer is the same however often it is asked, and however many are at work at once.
func TestPictureAgain(t *testing.T) {
	defer runtime.GOMAXPROCS(runtime.GOMAXPROCS(0))
	n := numbers(71)
	s := sized(16, 16)
	for kind := range 3 {
		frame, past, next := n.film(s)
		h := api.Head{Kind: kind, Quality: 3}
		payload, made, _ := plainPicture(s, h, frame, past, next)
		for _, many := range []int{1, 2, 8} {
			runtime.GOMAXPROCS(many)
			for range 8 {
				checkPicture(t, s, h, frame, past, next, payload, made)
			}
		}
	}
}

// P14.2, R4: what is handed in stays as it was, spare room too; what is answered shares no memory with it, nor with other answers.
func TestPictureKeeps(t *testing.T) {
	n := numbers(72)
	s := sized(16, 8)
	for kind := range 3 {
		frame, past, next := n.film(s)
		a, aRoom := roomy(frame)
		p, pRoom := roomy(past)
		q, qRoom := roomy(next)
		aWas, pWas, qWas := bytes.Clone(aRoom), bytes.Clone(pRoom), bytes.Clone(qRoom)
		unchanged := func() bool {
			return bytes.Equal(aRoom, aWas) && bytes.Equal(pRoom, pWas) && bytes.Equal(qRoom, qWas)
		}
		h := api.Head{Kind: kind}
		b, f, e := Picture(s, h, a, p, q)
		c, g, _ := Picture(s, h, a, p, q)
		if e != api.OK || !bytes.Equal(b, c) || !same(f, g) || !same(f, frame) || !unchanged() {
			t.Fatalf("kind %d: %d, or not as it was", kind, e)
		}
		soil(f)
		clear(b[:cap(b)])
		if !unchanged() || !same(g, frame) {
			t.Fatalf("kind %d: memory is shared", kind)
		}
		again, _, _ := Picture(s, h, a, p, q)
		clear(aRoom)
		clear(pRoom)
		clear(qRoom)
		if !bytes.Equal(again, c) || !same(g, frame) {
			t.Fatalf("kind %d: an answer changed", kind)
		}
	}
}

// P14.2, R4: the planes of the frame that is answered are of their own each.
func TestPicturePlanesApart(t *testing.T) {
	s := sized(8, 8)
	grey := flat(s, [3]byte{128, 128, 128})
	_, f, _ := Picture(s, api.Head{}, grey, api.Frame{}, api.Frame{})
	for p := range f.Planes {
		_ = append(f.Planes[p], 1, 2, 3)
		clear(f.Planes[p][:cap(f.Planes[p])])
		for q := p + 1; q < 3; q++ {
			if !bytes.Equal(f.Planes[q], grey.Planes[q]) {
				t.Fatalf("planes %d and %d share memory", p, q)
			}
		}
	}
}

// P14.2, R4: one frame may be all three at once, and so may an answer.
func TestPictureOfOneFrame(t *testing.T) {
	n := numbers(73)
	s := sized(16, 16)
	f := n.frame(s)
	for quality := range 4 {
		for kind := range 3 {
			was := kept(f)
			h := api.Head{Kind: kind, Quality: quality}
			payload, made, _ := plainPicture(s, h, was, was, was)
			checkPicture(t, s, h, f, f, f, payload, made)
			if !same(f, was) {
				t.Fatal("not as it was")
			}
			_, f, _ = Picture(s, h, f, f, f)
		}
	}
}
