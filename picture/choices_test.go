package picture

import (
	"bytes"
	"slices"
	"strconv"
	"strings"
	"testing"

	"clapboard/api"
	"clapboard/bits"
)

// whole are the bits of Whole, by chapter 1's words.
func whole(n int) string {
	m := strconv.FormatInt(int64(n)+1, 2)
	return strings.Repeat("0", len(m)-1) + m
}

// signed are those of Signed.
func signed(n int) string {
	if n > 0 {
		return whole(2*n - 1)
	}
	return whole(-2 * n)
}

// bytesOf are the bytes of bits that are told as a text, with their end.
func bytesOf(s string) []byte {
	w := &bits.Writer{}
	for _, c := range s {
		w.Bit(int(c - '0'))
	}
	w.End()
	return w.Bytes()
}

// checkChoices holds Choices to a list.
func checkChoices(t *testing.T, s api.Sequence, h api.Head, payload []byte, want []api.Choice) {
	t.Helper()
	if l, e := Choices(s, h, payload); e != api.OK || !slices.Equal(l, want) {
		t.Fatalf("%+v, %+v: %v, %d, not %v", s, h, l, e, want)
	}
}

// P13.1: the bits of pictures of 8 by 8, by hand: four blocks, two a row, of the first plane, and one of each other. A vector is told beside the middle of those of the blocks left, above, and above to the right.
func TestChoicesByHand(t *testing.T) {
	past := func(x, y int) string { return whole(4) + signed(x) + signed(y) + whole(0) }
	next := func(x, y int) string { return whole(5) + signed(x) + signed(y) + whole(0) }
	both := func(x, y, z, w int) string {
		return whole(6) + signed(x) + signed(y) + signed(z) + signed(w) + whole(0)
	}
	const mean = "1" + "1"
	for i, c := range []struct {
		kind int
		bits string
		want []api.Choice
	}{
		{0, mean + mean + mean + mean + mean + mean, alike(sized(8, 8), api.Choice{})},
		{0, "010" + "1" + "011" + "1" + "00100" + "1" + mean + "1" + "010" + "1" + "00110" + "011" + "1",
			[]api.Choice{{Mode: 1}, {Mode: 2}, {Mode: 3}, {}, {Levels: api.Block{3}}, {Mode: 2}}},
		// The fourth block's guess has a block to its left, and one above, and none above to the right.
		{1, past(4, 2) + past(6, 3) + past(1, 1) + past(0, 0) + past(0, 0) + past(0, 0),
			[]api.Choice{{Mode: 4, Past: of(4, 2)}, {Mode: 4, Past: of(6, 3)}, {Mode: 4, Past: of(5, 3)}, {Mode: 4, Past: of(5, 3)}, {Mode: 4}, {Mode: 4}}},
		// The third one's has none to its left.
		{1, past(-4, 9) + past(-6, 2) + past(0, 0) + past(2, -1) + past(7, 7) + past(0, 0),
			[]api.Choice{{Mode: 4, Past: of(-4, 9)}, {Mode: 4, Past: of(-6, 2)}, {Mode: 4, Past: of(-4, 2)}, {Mode: 4, Past: of(-2, 1)}, {Mode: 4, Past: of(7, 7)}, {Mode: 4}}},
		// A block without a vector stands as one of 0 and 0.
		{1, past(4, 2) + mean + past(4, 2) + past(1, 1) + past(4, 2) + past(4, 2),
			[]api.Choice{{Mode: 4, Past: of(4, 2)}, {}, {Mode: 4, Past: of(4, 2)}, {Mode: 4, Past: of(1, 1)}, {Mode: 4, Past: of(4, 2)}, {Mode: 4, Past: of(4, 2)}}},
		// Each field guesses by its own vectors: one of the one is 0 and 0 in the other.
		{2, past(4, 2) + next(6, 3) + both(1, 1, 2, 2) + both(0, 0, 0, 0) + next(1, 1) + past(1, 1),
			[]api.Choice{{Mode: 4, Past: of(4, 2)}, {Mode: 5, Next: of(6, 3)}, {Mode: 6, Past: of(1, 1), Next: of(2, 2)}, {Mode: 6, Next: of(2, 2)}, {Mode: 5, Next: of(1, 1)}, {Mode: 4, Past: of(1, 1)}}},
		{2, both(4, 2, -4, -2) + both(6, 3, -6, -3) + next(0, 0) + past(0, 0) + both(0, 0, 1, 1) + both(2, 0, 0, 0),
			[]api.Choice{{Mode: 6, Past: of(4, 2), Next: of(-4, -2)}, {Mode: 6, Past: of(6, 3), Next: of(-6, -3)}, {Mode: 5, Next: of(-4, -2)}, {Mode: 4}, {Mode: 6, Next: of(1, 1)}, {Mode: 6, Past: of(2, 0)}}},
	} {
		l, e := Choices(sized(8, 8), api.Head{Kind: c.kind}, bytesOf(c.bits))
		if e != api.OK || !slices.Equal(l, c.want) {
			t.Errorf("%d: %v, %d, not %v", i, l, e, c.want)
		}
	}
}

// P13.1: choices are as they were told, in their order, of each size, kind and mode; the bytes stay as they were.
func TestChoicesAsTold(t *testing.T) {
	n := numbers(11)
	for _, s := range sizes {
		for kind := range 3 {
			for range 6 {
				l := n.choices(s, kind)
				b := payload(s, kind, l)
				was := bytes.Clone(b)
				checkChoices(t, s, api.Head{Kind: kind, Quality: n.below(21)}, b, l)
				if !bytes.Equal(b, was) {
					t.Fatal("the bytes are not as they were")
				}
			}
			for mode := range []int{4, 5, 7}[kind] {
				c := n.choice(mode)
				checkChoices(t, s, api.Head{Kind: kind}, payload(s, kind, alike(s, c)), alike(s, c))
			}
		}
	}
}

// P13.1: vectors at both ends, one beside the other, so that what they are apart is the most that may be.
func TestChoicesFarVectors(t *testing.T) {
	for _, s := range []api.Sequence{sized(8, 8), sized(64, 64)} {
		n := numbers(12)
		var l []api.Choice
		for range order(s) {
			end := func() int { return []int{-31, 31}[n.below(2)] }
			l = append(l, api.Choice{Mode: 6, Past: of(end(), end()), Next: of(end(), end())})
		}
		checkChoices(t, s, api.Head{Kind: 2}, payload(s, 2, l), l)
	}
}

// P13.1: a sequence or a head that may be, to its edges, changes nothing of the choices.
func TestChoicesEdges(t *testing.T) {
	n := numbers(13)
	for kind := range 3 {
		l := n.choices(sized(8, 8), kind)
		b := payload(sized(8, 8), kind, l)
		for _, s := range rightSequences() {
			checkChoices(t, s, api.Head{Kind: kind}, b, l)
		}
		for _, quality := range []int{0, 1, 19, 20} {
			for _, h := range rightHeads(api.Head{Kind: kind, Quality: quality}) {
				checkChoices(t, sized(8, 8), h, b, l)
			}
		}
	}
}

// P13.1, P13.2: ErrHead of a sequence or a head that may not be, whatever the payload and both frames are.
func TestHeadErrors(t *testing.T) {
	n := numbers(14)
	s := sized(8, 8)
	f := n.frame(s)
	for kind := range 3 {
		good := payload(s, kind, n.choices(s, kind))
		for _, b := range [][]byte{good, good[:1], append(bytes.Clone(good), 0), nil, {0}} {
			for _, wrong := range wrongSequences() {
				checkNone(t, wrong, api.Head{Kind: kind}, b, f, f, api.ErrHead, api.ErrHead)
				checkNone(t, wrong, api.Head{Kind: kind}, b, api.Frame{}, api.Frame{W: wrong.W, H: wrong.H}, api.ErrHead, api.ErrHead)
			}
			for _, wrong := range wrongHeads() {
				checkNone(t, s, wrong, b, f, f, api.ErrHead, api.ErrHead)
				checkNone(t, s, wrong, b, api.Frame{}, api.Frame{}, api.ErrHead, api.ErrHead)
			}
		}
	}
	checkNone(t, api.Sequence{}, api.Head{Kind: -1}, nil, api.Frame{}, api.Frame{}, api.ErrHead, api.ErrHead)
}

// P13.1: payloads of nothing, and of no bits but the end; and hand-made ones of bits 0 or 1 alone.
func TestPayloadsOfNothing(t *testing.T) {
	n := numbers(21)
	for _, s := range sizes {
		f := n.frame(s)
		for kind := range 3 {
			h := api.Head{Kind: kind}
			for _, b := range [][]byte{nil, {}, {0}, {0, 0, 0, 0, 0, 0, 0, 0, 0}} {
				checkNone(t, s, h, b, f, f, api.ErrBlock, api.ErrBlock)
			}
			// The end's bit 1 is a mode here, and the bits 0 behind it are no number.
			checkNone(t, s, h, []byte{128}, f, f, api.ErrScan, api.ErrScan)
			checkNone(t, s, h, bytes.Repeat([]byte{255}, 3000), f, f, api.ErrPicture, api.ErrPicture)
		}
	}
}

// P13.1: a payload that is cut short at any byte, or has one more behind, is none.
func TestPayloadsCut(t *testing.T) {
	n := numbers(15)
	for _, s := range []api.Sequence{sized(8, 8), sized(16, 8), sized(8, 24), sized(64, 64)} {
		f := n.frame(s)
		for kind := range 3 {
			h := api.Head{Kind: kind}
			b := payload(s, kind, n.choices(s, kind))
			step := 1
			if s.W == 64 {
				step = 37
			}
			for many := len(b) - 1; many >= 0; many -= step {
				_, want := plainChoices(s, h, b[:many])
				if want == api.OK {
					t.Fatal("a cut payload is one")
				}
				checkNone(t, s, h, b[:many:many], f, f, want, want)
				// What is behind the end, as spare room, is not there.
				checkNone(t, s, h, b[:many], f, f, want, want)
			}
			for _, more := range [][]byte{{0}, {128}, {1}, {255}, {0, 0, 0}, b} {
				checkNone(t, s, h, slices.Concat(b, more), f, f, api.ErrPicture, api.ErrPicture)
			}
		}
	}
}

// P13.1: bits behind the last block that are no end, and no bits there at all.
func TestBitsBehindTheLast(t *testing.T) {
	n := numbers(16)
	for _, s := range sizes {
		f := n.frame(s)
		for kind := range 3 {
			h := api.Head{Kind: kind}
			l := n.choices(s, kind)
			for _, behind := range []string{"0", "1", "10", "00000000", "10000000", "11"} {
				told := newTeller(s, kind)
				told.tell(l...)
				for _, c := range behind {
					told.w.Bit(int(c - '0'))
				}
				checkNone(t, s, h, told.ended(), f, f, api.ErrPicture, api.ErrPicture)
			}
			told := newTeller(s, kind)
			told.tell(l...)
			// Up to a byte's end there are bits 0 alone.
			checkNone(t, s, h, told.w.Bytes(), f, f, api.ErrPicture, api.ErrPicture)
			checkChoices(t, s, h, told.ended(), l)
		}
	}
}

// fault is what may be told in a block's place that is none; each has an error.
type fault struct {
	bits string
	want api.Errno
}

// vectorFaults are vectors, one of which may not be, one number beyond what may be, beside a guess.
func vectorFaults(mode, between string, guess api.Vector) []fault {
	var l []fault
	for _, n := range []int{-33, -32, 32, 33} {
		l = append(l, fault{mode + between + signed(n-guess.X) + signed(-guess.Y) + whole(0), api.ErrVector})
		l = append(l, fault{mode + between + signed(-guess.X) + signed(n-guess.Y) + whole(0), api.ErrVector})
	}
	return append(l,
		fault{mode + between + signed(129) + signed(0) + whole(0), api.ErrVector},
		fault{mode + between + signed(-guess.X) + signed(-129) + whole(0), api.ErrVector})
}

// faults are those of a block, of a kind of picture, beside both guesses.
func faults(kind int, past, next api.Vector) []fault {
	l := []fault{
		{whole(17), api.ErrScan},
		{whole(1) + whole(16) + signed(1), api.ErrScan},
		{whole(2) + whole(15) + signed(1) + whole(0) + signed(1), api.ErrScan},
		{whole(1) + whole(0) + signed(0), api.ErrScan},
		{whole(1) + whole(3) + signed(1<<20+1), api.ErrScan},
		{whole(1) + whole(3) + signed(-1<<20-1), api.ErrScan},
	}
	for i := range l {
		l[i].bits = whole(i%4) + l[i].bits
	}
	for _, mode := range []int{[]int{4, 5, 7}[kind], 7, 8, 260, 1 << 30} {
		l = append(l, fault{whole(mode) + whole(0) + whole(0) + whole(0), api.ErrBlock})
	}
	l = append(l, fault{strings.Repeat("0", 32) + "1", api.ErrBlock})
	if kind > 0 {
		l = append(l, vectorFaults(whole(4), "", past)...)
		l = append(l, fault{whole(4) + signed(-past.X) + signed(-past.Y) + whole(17), api.ErrScan})
	}
	if kind > 1 {
		l = append(l, vectorFaults(whole(5), "", next)...)
		l = append(l, vectorFaults(whole(6), "", past)...)
		l = append(l, vectorFaults(whole(6), signed(31-past.X)+signed(-31-past.Y), next)...)
	}
	return l
}

// P13.1, P13.2: a block that is none, the first of the picture, the last of a plane, the last of all, and each one of small pictures: its error, whatever stands behind it, other faults too.
func TestFaults(t *testing.T) {
	n := numbers(17)
	for _, s := range []api.Sequence{sized(8, 8), sized(16, 8), sized(8, 24), sized(64, 64)} {
		f := n.frame(s)
		many := len(order(s))
		for kind := range 3 {
			l := n.choices(s, kind)
			for at := range many {
				if many > 20 && !slices.Contains([]int{0, 16, 255, 256, 319, 320, 383}, at) {
					continue
				}
				told := newTeller(s, kind)
				told.tell(l[:at]...)
				past, next := told.guesses()
				for i, wrong := range faults(kind, past, next) {
					told := newTeller(s, kind)
					told.tell(l[:at]...)
					for _, c := range wrong.bits {
						told.w.Bit(int(c - '0'))
					}
					switch i % 3 {
					case 0: // the other blocks
						told.left = told.left[1:]
						told.tell(l[at+1:]...)
					case 1: // another fault
						told.w.Whole(99)
					}
					checkNone(t, s, api.Head{Kind: kind}, told.ended(), f, f, wrong.want, wrong.want)
				}
			}
		}
	}
}

// P13.1: vectors just within what may be, beside each guess, are read, by the same bits but for one number.
func TestVectorsBesideGuesses(t *testing.T) {
	n := numbers(18)
	s := sized(16, 16)
	for kind := 1; kind < 3; kind++ {
		l := n.choices(s, kind)
		for at := range l {
			for _, v := range []api.Vector{of(31, 31), of(-31, -31), of(-31, 31), none} {
				m := slices.Clone(l)
				m[at] = api.Choice{Mode: 4, Past: v}
				checkChoices(t, s, api.Head{Kind: kind}, payload(s, kind, m), m)
				if kind == 2 {
					m[at] = api.Choice{Mode: 6, Past: v, Next: of(-v.X, v.Y)}
					checkChoices(t, s, api.Head{Kind: kind}, payload(s, kind, m), m)
				}
			}
		}
	}
}

// P13.1, R1: any bytes, and payloads of which one bit is turned, are what the chapter's words make of them.
func TestAnyBytes(t *testing.T) {
	n := numbers(19)
	may := 0
	for range 3000 {
		s := sizes[n.below(4)]
		h := api.Head{Kind: n.below(3), Quality: n.below(21)}
		b := n.bytes(n.below(60))
		if n.below(4) > 0 {
			b = payload(s, h.Kind, n.choices(s, h.Kind))
			b[n.below(len(b))] ^= 1 << n.below(8)
		}
		want, e := plainChoices(s, h, b)
		if e == api.OK {
			may++
			checkChoices(t, s, h, b, want)
			continue
		}
		f := n.frame(s)
		checkNone(t, s, h, b, f, f, e, e)
	}
	if may < 100 {
		t.Errorf("only %d were payloads", may)
	}
}

// P13.1, R4, R5: the bytes stay as they were, and are not kept; no two answers share memory.
func TestChoicesKeeps(t *testing.T) {
	n := numbers(20)
	s := sized(16, 8)
	l := n.choices(s, 2)
	b := payload(s, 2, l)
	roomy := append(make([]byte, 0, len(b)+99), b...)
	was := bytes.Clone(roomy[:cap(roomy)])
	first, e := Choices(s, api.Head{Kind: 2}, roomy)
	if e != api.OK || !bytes.Equal(roomy[:cap(roomy)], was) {
		t.Fatal(e, "the bytes are not as they were")
	}
	for i := range roomy {
		roomy[i] = 0x55
	}
	if !slices.Equal(first, l) {
		t.Fatal("the choices changed with the bytes")
	}
	second, _ := Choices(s, api.Head{Kind: 2}, b)
	clear(first[:cap(first)])
	if third, _ := Choices(s, api.Head{Kind: 2}, b); !slices.Equal(second, l) || !slices.Equal(third, l) {
		t.Fatal("the choices changed with others")
	}
}
