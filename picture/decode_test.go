package picture

import (
	"bytes"
	"testing"

	"clapboard/api"
	"clapboard/bits"
	"clapboard/block"
	"clapboard/plane"
	"clapboard/quant"
	"clapboard/wave"
)

// checkDecode holds Decode to a frame.
func checkDecode(t *testing.T, s api.Sequence, h api.Head, payload []byte, past, next, want api.Frame) {
	t.Helper()
	if f, e := Decode(s, h, payload, past, next); e != api.OK || !same(f, want) {
		t.Fatalf("%+v, %+v: %v, %d, not %v", s, h, f, e, want)
	}
}

// flat is a frame of a sequence's size, of one sample for each plane.
func flat(s api.Sequence, samples [3]byte) api.Frame {
	f := api.Frame{W: s.W, H: s.H}
	for p, n := range samples {
		many := s.W * s.H
		if p > 0 {
			many /= 4
		}
		f.Planes[p] = bytes.Repeat([]byte{n}, many)
	}
	return f
}

// P13.2: the chapter's example, of each size, and what each mode makes of flat frames.
func TestDecodeFlat(t *testing.T) {
	for _, s := range sizes {
		past, next := flat(s, [3]byte{60, 7, 0}), flat(s, [3]byte{81, 200, 255})
		for i, c := range []struct {
			kind, mode int
			want       api.Frame
		}{
			{api.PictureI, api.MMean, flat(s, [3]byte{128, 128, 128})},
			{api.PictureI, api.MDown, flat(s, [3]byte{128, 128, 128})},
			{api.PictureP, api.MRight, flat(s, [3]byte{128, 128, 128})},
			{api.PictureB, api.MSlant, flat(s, [3]byte{128, 128, 128})},
			{api.PictureP, api.MPast, past},
			{api.PictureB, api.MPast, past},
			{api.PictureB, api.MNext, next},
			{api.PictureB, api.MBoth, flat(s, [3]byte{71, 104, 128})},
		} {
			b := payload(s, c.kind, alike(s, api.Choice{Mode: c.mode}))
			f, e := Decode(s, api.Head{Kind: c.kind}, b, past, next)
			if e != api.OK || !same(f, c.want) {
				t.Errorf("%d: %v, %d", i, f, e)
			}
		}
	}
}

// P13.2: a block is predicted from the frame as far as it is, of its own plane: what the first one is, those beside and below it take over.
func TestDecodeAsFarAsItIs(t *testing.T) {
	s := sized(8, 8)
	bright := wave.Forward(api.Block{5, 5, 5, 5, 5, 5, 5, 5, 5, 5, 5, 5, 5, 5, 5, 5})
	past := flat(s, [3]byte{9, 9, 9})
	for kind := range 3 {
		for _, last := range []int{api.MDown, api.MRight, api.MSlant, api.MMean} {
			l := alike(s, api.Choice{})
			l[0].Levels = bright
			l[1].Mode, l[2].Mode, l[3].Mode = api.MRight, api.MDown, last
			checkDecode(t, s, api.Head{Kind: kind}, payload(s, kind, l), past, past, flat(s, [3]byte{133, 128, 128}))
		}
	}
}

// P13.2: blocks stand one behind the other from the left to the right, row by row: each is one brighter than the one ahead of it, plane by plane.
func TestDecodeOrder(t *testing.T) {
	for _, s := range sizes[:5] {
		past := flat(s, [3]byte{})
		var l []api.Choice
		for i := range order(s) {
			c := api.Choice{Mode: api.MPast}
			for k := range c.Levels {
				c.Levels[k] = i
			}
			c.Levels = wave.Forward(c.Levels)
			l = append(l, c)
		}
		f, e := Decode(s, api.Head{Kind: 1}, payload(s, 1, l), past, api.Frame{})
		if e != api.OK {
			t.Fatal(e)
		}
		for i, at := range order(s) {
			for k := range 16 {
				if n := plane.At(f, at[0], 4*at[1]+k%4, 4*at[2]+k/4); n != i {
					t.Fatalf("%+v: block %d: %d", s, i, n)
				}
			}
		}
	}
}

// P13.2: a vector into the past takes from past, one into the next from next, of the block's own plane.
func TestDecodeVectors(t *testing.T) {
	s := sized(16, 16)
	n := numbers(31)
	past, next := n.frame(s), n.frame(s)
	for range 20 {
		// Whole samples: what is found there is what the frames have.
		v, w := of(2*n.below(31)-30, 2*n.below(31)-30), of(2*n.below(31)-30, 2*n.below(31)-30)
		for mode := api.MPast; mode <= api.MBoth; mode++ {
			c := api.Choice{Mode: mode}
			if mode != api.MNext {
				c.Past = v
			}
			if mode != api.MPast {
				c.Next = w
			}
			f, e := Decode(s, api.Head{Kind: 2}, payload(s, 2, alike(s, c)), past, next)
			if e != api.OK {
				t.Fatal(e)
			}
			for p, side := range [3]int{16, 8, 8} {
				for i := range side * side {
					x, y := i%side, i/side
					a, b := plane.At(past, p, x+v.X/2, y+v.Y/2), plane.At(next, p, x+w.X/2, y+w.Y/2)
					want := []int{4: a, 5: b, 6: (a + b + 1) / 2}[mode]
					if got := plane.At(f, p, x, y); got != want {
						t.Fatalf("%+v: plane %d at %d, %d: %d, not %d", c, p, x, y, got, want)
					}
				}
			}
		}
	}
}

// P13.2: pictures of each size, kind and quality are what the chapter's words make of them.
func TestDecodeAsTheWords(t *testing.T) {
	n := numbers(32)
	for _, s := range sizes {
		past, next := n.frame(s), n.frame(s)
		for kind := range 3 {
			for quality := range 21 {
				if s.W*s.H > 2000 && quality%10 > 0 {
					continue
				}
				l := n.choices(s, kind)
				want := plainFrame(t, s, quality, l, past, next)
				checkDecode(t, s, api.Head{Kind: kind, Quality: quality}, payload(s, kind, l), past, next, want)
			}
		}
	}
}

// P13.2: by the quality 0, a frame whose blocks are each told by what is left of them is that frame.
func TestDecodeLosesNothing(t *testing.T) {
	n := numbers(33)
	for _, s := range []api.Sequence{sized(8, 8), sized(24, 16)} {
		past, next, want := n.frame(s), n.frame(s), n.frame(s)
		for kind := range 3 {
			l := n.choices(s, kind)
			for i, at := range order(s) {
				// All that is predicted from of the frame itself stands ahead of the block, and is as it will be.
				guess, e := block.Predict(want, past, next, at[0], 4*at[1], 4*at[2], l[i])
				if e != api.OK {
					t.Fatal(e)
				}
				l[i].Levels, _ = quant.Down(wave.Forward(wave.Less(plane.Get(want, at[0], 4*at[1], 4*at[2]), guess)), 0)
			}
			checkDecode(t, s, api.Head{Kind: kind}, payload(s, kind, l), past, next, want)
		}
	}
}

// P13.2: a frame that the kind comes from has to fit; one that it does not come from may be any.
func TestDecodeStrangers(t *testing.T) {
	n := numbers(34)
	s := sized(16, 8)
	past, next := n.frame(s), n.frame(s)
	for kind := range 3 {
		l := n.choices(s, kind)
		b := payload(s, kind, l)
		h := api.Head{Kind: kind, Quality: 3}
		want := plainFrame(t, s, 3, l, past, next)
		checkDecode(t, s, h, b, past, next, want)
		for _, f := range strangers() {
			if kind == 0 {
				checkDecode(t, s, h, b, f, next, want)
				checkDecode(t, s, h, b, f, f, want)
			} else {
				checkNone(t, s, h, b[:0], f, next, api.ErrBlock, api.ErrPicture)
				refused(t, s, h, b, f, next)
				refused(t, s, h, b, f, f)
			}
			if kind < 2 {
				checkDecode(t, s, h, b, past, f, want)
			} else {
				refused(t, s, h, b, past, f)
			}
		}
	}
}

// refused: Decode answers ErrPicture, and no frame.
func refused(t *testing.T, s api.Sequence, h api.Head, payload []byte, past, next api.Frame) {
	t.Helper()
	if f, e := Decode(s, h, payload, past, next); e != api.ErrPicture || !same(f, api.Frame{}) {
		t.Fatalf("%+v, %+v: %v, %d", s, h, f, e)
	}
}

// P13.2, R2: which error stands where several could: ErrHead, then ErrPicture of a frame that does not fit, then that of the choices.
func TestDecodeWhichError(t *testing.T) {
	n := numbers(35)
	s := sized(8, 8)
	f := n.frame(s)
	for kind := range 3 {
		good := payload(s, kind, n.choices(s, kind))
		for _, c := range []struct {
			b    []byte
			want api.Errno
		}{{nil, api.ErrBlock}, {[]byte{128}, api.ErrScan}, {append(bytes.Clone(good), 0), api.ErrPicture}} {
			h := api.Head{Kind: kind}
			checkNone(t, s, h, c.b, f, f, c.want, c.want)
			framesFirst := c.want
			if kind > 0 {
				framesFirst = api.ErrPicture
			}
			checkNone(t, s, h, c.b, api.Frame{}, api.Frame{}, c.want, framesFirst)
			checkNone(t, s, h, c.b, api.Frame{}, f, c.want, framesFirst)
			if kind < 2 {
				framesFirst = c.want
			}
			checkNone(t, s, h, c.b, f, api.Frame{}, c.want, framesFirst)
			h.Quality = 21
			checkNone(t, s, h, c.b, api.Frame{}, api.Frame{}, api.ErrHead, api.ErrHead)
		}
	}
	wrong := bytesOf(whole(4) + signed(99) + signed(0))
	checkNone(t, s, api.Head{Kind: 1}, wrong, f, f, api.ErrVector, api.ErrVector)
	checkNone(t, s, api.Head{Kind: 1}, wrong, api.Frame{}, f, api.ErrVector, api.ErrPicture)
}

// P13.3: the same payload is the same frame, whatever Display and Full are, and the sequence's other numbers too.
func TestDecodeWhateverTheHeadTells(t *testing.T) {
	n := numbers(36)
	s := sized(8, 8)
	past, next := n.frame(s), n.frame(s)
	for kind := range 3 {
		for _, quality := range []int{0, 7, 20} {
			l := n.choices(s, kind)
			b := payload(s, kind, l)
			want := plainFrame(t, s, quality, l, past, next)
			for _, h := range rightHeads(api.Head{Kind: kind, Quality: quality}) {
				checkDecode(t, s, h, b, past, next, want)
			}
			for _, other := range rightSequences() {
				checkDecode(t, other, api.Head{Kind: kind, Quality: quality}, b, past, next, want)
			}
		}
	}
}

// roomy is f with spare room behind each plane, all of one piece: what is written beyond a plane is seen in the next one.
func roomy(f api.Frame) (api.Frame, []byte) {
	all := bytes.Repeat([]byte{0xAA}, 9000)
	at := 0
	for p, samples := range f.Planes {
		f.Planes[p] = all[at : at+copy(all[at:], samples)]
		at += len(samples)
	}
	return f, all
}

// P13.2, R4: past, next and the bytes stay as they were, spare room too; the frame that is answered shares no memory with them, nor with other frames.
func TestDecodeKeeps(t *testing.T) {
	n := numbers(37)
	s := sized(16, 8)
	for kind := range 3 {
		for mode := range []int{4, 5, 7}[kind] {
			past, pastRoom := roomy(n.frame(s))
			next, nextRoom := roomy(n.frame(s))
			b := payload(s, kind, alike(s, api.Choice{Mode: mode}))
			pastWas, nextWas, was := bytes.Clone(pastRoom), bytes.Clone(nextRoom), bytes.Clone(b)
			unchanged := func() bool {
				return bytes.Equal(pastRoom, pastWas) && bytes.Equal(nextRoom, nextWas) && bytes.Equal(b, was)
			}
			h := api.Head{Kind: kind}
			f, e := Decode(s, h, b, past, next)
			g, _ := Decode(s, h, b, past, next)
			if e != api.OK || !same(f, g) || !unchanged() {
				t.Fatalf("kind %d, mode %d: %d, or not as it was", kind, mode, e)
			}
			soil(f)
			if !unchanged() || same(f, g) {
				t.Fatalf("kind %d, mode %d: memory is shared", kind, mode)
			}
			again, _ := Decode(s, h, b, past, next)
			clear(pastRoom)
			clear(nextRoom)
			if !same(again, g) {
				t.Fatalf("kind %d, mode %d: the frame changed", kind, mode)
			}
		}
	}
}

// soil writes over all of a frame's planes, and their spare room, one by one; none may reach another.
func soil(f api.Frame) {
	for p := range f.Planes {
		for i := range f.Planes[p][:cap(f.Planes[p])] {
			f.Planes[p][:cap(f.Planes[p])][i] ^= 0xFF
		}
	}
}

// P13.2, R4: the planes of the frame that is answered are of their own each.
func TestDecodePlanesApart(t *testing.T) {
	s := sized(8, 8)
	f, _ := Decode(s, api.Head{}, payload(s, 0, alike(s, api.Choice{})), api.Frame{}, api.Frame{})
	for p := range f.Planes {
		_ = append(f.Planes[p], 1, 2, 3)
		clear(f.Planes[p][:cap(f.Planes[p])])
		for q := p + 1; q < 3; q++ {
			if !bytes.Equal(f.Planes[q], bytes.Repeat([]byte{128}, 16)) {
				t.Fatalf("planes %d and %d share memory", p, q)
			}
		}
	}
}

// P13.2, R4: one frame may be past and next at once, and so may an answer.
func TestDecodeOfOneFrame(t *testing.T) {
	n := numbers(38)
	s := sized(16, 16)
	f := n.frame(s)
	for range 5 {
		l := n.choices(s, 2)
		was := kept(f)
		want := plainFrame(t, s, 4, l, was, was)
		g, e := Decode(s, api.Head{Kind: 2, Quality: 4}, payload(s, 2, l), f, f)
		if e != api.OK || !same(g, want) || !same(f, was) {
			t.Fatal(e, g)
		}
		f = g
	}
}

// P13.1: blocks come one by one, and may be left early and gone through again.
func TestBlocksLeftEarly(t *testing.T) {
	all := blocks(sized(16, 8))
	for range 2 {
		many := 0
		for n := range all {
			if n != many {
				t.Fatalf("%d, not %d", n, many)
			}
			if many++; many == 5 {
				break
			}
		}
	}
	many := 0
	for n, at := range all {
		want := order(sized(16, 8))[many]
		if n != many || at != (spot{want[0], want[1], want[2]}) {
			t.Fatalf("%d: %d, %v", many, n, at)
		}
		many++
	}
	if many != 12 {
		t.Errorf("%d", many)
	}
}

// P13.2: the chapter's example, its bits told by hand.
func TestDecodeByHand(t *testing.T) {
	w := &bits.Writer{}
	for range 6 {
		w.Whole(0)
		w.Whole(0)
	}
	w.End()
	checkDecode(t, sized(8, 8), api.Head{}, w.Bytes(), api.Frame{}, api.Frame{}, flat(sized(8, 8), [3]byte{128, 128, 128}))
}
