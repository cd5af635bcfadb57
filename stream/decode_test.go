package stream

import (
	"bytes"
	"math"
	"slices"
	"strconv"
	"strings"
	"testing"

	"clapboard/api"
	"clapboard/bits"
	"clapboard/encode"
	"clapboard/picture"
	"clapboard/plane"
)

// sized is a sequence of two sides.
func sized(w, h int) api.Sequence { return api.Sequence{W: w, H: h, Rate: 100, Buffer: 1000} }

// sizes are sequences with the least sides, with the greatest, and with such as differ.
var sizes = []api.Sequence{sized(8, 8), sized(8, 16), sized(16, 8), sized(16, 16), sized(24, 40), sized(8, 64), sized(64, 8), sized(64, 64)}

// far are numbers that nothing has here, both ends of an int among them, and some that look like others when their highest bits are dropped.
var far = []int{
	math.MinInt, math.MinInt + 1, math.MinInt + 8, math.MinInt64/2 - 1, -1<<32 - 8, -1 << 32, -1<<32 + 1, -1<<32 + 8, math.MinInt32, -1 << 24, -256, -248, -64, -8, -2, -1,
	1<<30 + 1, math.MaxInt32, math.MaxInt32 + 1, 1<<32 - 1, 1 << 32, 1<<32 + 1, 1<<32 + 8, 1<<40 + 8, math.MaxInt64/2 + 1, math.MaxInt - 7, math.MaxInt - 1, math.MaxInt,
}

// wrongSequences are sequences that may not be, each by one number alone: one beyond what may be, and further.
func wrongSequences() []api.Sequence {
	l := []api.Sequence{{}, {W: 8, H: 8}, {Rate: 1, Buffer: 1}}
	for _, n := range append([]int{0, 1, 4, 7, 9, 12, 15, 17, 63, 65, 68, 72, 128}, far...) {
		l = append(l, api.Sequence{W: n, H: 8, Rate: 100, Buffer: 1000}, api.Sequence{W: 8, H: n, Rate: 100, Buffer: 1000})
	}
	for _, n := range append([]int{0, 1<<24 + 1}, far...) {
		l = append(l, api.Sequence{W: 8, H: 8, Rate: n, Buffer: 1 << 30})
	}
	for _, n := range append([]int{0, 99}, far...) {
		l = append(l, api.Sequence{W: 8, H: 8, Rate: 100, Buffer: n})
	}
	return l
}

// rightSequences are the sequence of 8 by 8 with other numbers that may be, the edges among them.
func rightSequences() []api.Sequence {
	var l []api.Sequence
	for _, n := range [][2]int{{1, 1}, {1, 2}, {1, 1 << 30}, {100, 100}, {100, 101}, {1<<24 - 1, 1 << 24}, {1 << 24, 1 << 24}, {1 << 24, 1<<30 - 1}, {1 << 24, 1 << 30}} {
		l = append(l, api.Sequence{W: 8, H: 8, Rate: n[0], Buffer: n[1]})
	}
	return l
}

// flat is a frame of one sample.
func flat(s api.Sequence, sample byte) api.Frame {
	f := api.Frame{W: s.W, H: s.H}
	for p, many := range []int{s.W * s.H, s.W * s.H / 4, s.W * s.H / 4} {
		f.Planes[p] = bytes.Repeat([]byte{sample}, many)
	}
	return f
}

// same tells whether two frames are the same one.
func same(a, b api.Frame) bool {
	return a.W == b.W && a.H == b.H && bytes.Equal(a.Planes[0], b.Planes[0]) && bytes.Equal(a.Planes[1], b.Planes[1]) && bytes.Equal(a.Planes[2], b.Planes[2])
}

// kept is f as it is now, made by hand.
func kept(f api.Frame) api.Frame {
	for p := range f.Planes {
		f.Planes[p] = bytes.Clone(f.Planes[p])
	}
	return f
}

// keptAll are frames as they are now.
func keptAll(l []api.Frame) []api.Frame {
	var all []api.Frame
	for _, f := range l {
		all = append(all, kept(f))
	}
	return all
}

// frames are so many frames of a sequence: some rise and fall slowly, and go on from one to the next; some look like chance.
func (n *numbers) frames(s api.Sequence, many int) []api.Frame {
	var l []api.Frame
	a, b, c := 1+n.below(9), 1+n.below(9), n.below(256)
	for at := range many {
		f := flat(s, 0)
		wild := n.below(5) == 0
		for p := range f.Planes {
			w, _ := plane.Size(f, p)
			for i := range f.Planes[p] {
				f.Planes[p][i] = byte(128 + 100*math.Sin(float64(a*(i%w)+c+at)/9)*math.Cos(float64(b*(i/w)-c-2*at)/11))
				if wild {
					f.Planes[p][i] = byte(n.next())
				}
			}
		}
		l = append(l, f)
	}
	return l
}

// comesFrom are the frames that the picture at a place comes from, of those that are made so far, in the order in which they are told; by the chapter's words.
func comesFrom(l []api.Head, at int, told []api.Frame) (past, next api.Frame) {
	anchors := ahead(l, at)
	switch l[at].Kind {
	case 1:
		past = told[anchors[0]]
	case 2:
		both := []int{anchors[0], anchors[1]}
		if l[both[0]].Display > l[both[1]].Display {
			slices.Reverse(both)
		}
		past, next = told[both[0]], told[both[1]]
	}
	return past, next
}

// shown are the frames of a film, told in the order of its heads, as it is shown.
func shown(l []api.Head, told []api.Frame) []api.Frame {
	all := make([]api.Frame, len(l))
	for at, h := range l {
		all[h.Display] = told[at]
	}
	return all
}

// plainEncode are the pictures of frames, as a film's heads want them; and the frames that are made, as they are shown.
func plainEncode(t *testing.T, s api.Sequence, l []api.Head, frames []api.Frame) ([][]byte, []api.Frame) {
	t.Helper()
	var pictures [][]byte
	var told []api.Frame
	for at, h := range l {
		past, next := comesFrom(l, at, told)
		payload, f, e := encode.Picture(s, h, frames[h.Display], past, next)
		if e != api.OK {
			t.Fatalf("%+v: %d", h, e)
		}
		pictures, told = append(pictures, raw(h, payload)), append(told, f)
	}
	return pictures, shown(l, told)
}

// plainDecode is what Decode should answer of a film, by the chapter's words.
func plainDecode(s api.Sequence, l []api.Head, pictures [][]byte) ([]api.Frame, api.Errno) {
	var told []api.Frame
	for at, h := range l {
		past, next := comesFrom(l, at, told)
		f, e := picture.Decode(s, h, pictures[at][10:], past, next)
		if e != api.OK {
			return nil, e
		}
		told = append(told, f)
	}
	return shown(l, told), api.OK
}

// checkDecode holds Decode to frames.
func checkDecode(t *testing.T, s api.Sequence, l [][]byte, want []api.Frame) {
	t.Helper()
	if got, e := Decode(s, l); e != api.OK || !slices.EqualFunc(got, want, same) {
		t.Fatalf("%+v: %d, %d frames of %d, or not the same", s, e, len(got), len(want))
	}
}

// checkNoDecode: there is nothing but an error.
func checkNoDecode(t *testing.T, s api.Sequence, l [][]byte, want api.Errno) {
	t.Helper()
	if got, e := Decode(s, l); e != want || len(got) != 0 {
		t.Fatalf("%+v: %d, %d frames, not %d", s, e, len(got), want)
	}
}

// all is the payload of a picture each of whose blocks has a mode, no vector but 0 and 0, and no levels; whole numbers by chapter 1's words.
func all(s api.Sequence, mode int) []byte {
	whole := strconv.FormatInt(int64(mode)+1, 2)
	block := strings.Repeat("0", len(whole)-1) + whole + strings.Repeat("1", []int{1, 1, 1, 1, 3, 3, 5}[mode])
	w := &bits.Writer{}
	for _, c := range strings.Repeat(block, s.W*s.H/16*3/2) {
		w.Bit(int(c - '0'))
	}
	w.End()
	return w.Bytes()
}

// P16.2: films by hand: what each picture takes over from another one tells which one that is.
func TestDecodeByHand(t *testing.T) {
	const past, next, both = api.MPast, api.MNext, api.MBoth
	for _, c := range []struct {
		film string
		// told are, picture by picture, a sample that is told anew; or, below 0, the mode of all blocks.
		told []int
		want []byte
	}{
		{"I0", []int{77}, []byte{77}},
		{"I0 P1 P2", []int{77, -past, -past}, []byte{77, 77, 77}},
		{"I0 P1 P2", []int{77, 90, -past}, []byte{77, 90, 90}},
		{"I0 I1 P2 P3", []int{10, 20, -past, -past}, []byte{10, 20, 20, 20}},
		{"I0 P1 I2 P3", []int{10, 30, 20, -past}, []byte{10, 30, 20, 20}},
		// The past is the one that is shown ahead; the next one, the other.
		{"I0 P2 B1", []int{100, 140, -past}, []byte{100, 100, 140}},
		{"I0 P2 B1", []int{100, 140, -next}, []byte{100, 140, 140}},
		{"I0 P2 B1", []int{100, 140, -both}, []byte{100, 120, 140}},
		{"I0 P2 B1", []int{140, 100, -past}, []byte{140, 140, 100}},
		// Both are the same for all that are between them; one of both sides is no anchor.
		{"I0 P4 B1 B2 B3", []int{10, 50, 200, -past, -next}, []byte{10, 200, 10, 50, 50}},
		{"I0 P4 B1 B2 B3 P5", []int{10, 50, -both, -past, 200, -past}, []byte{10, 30, 10, 200, 50, 50}},
		{"I0 P2 B1 P4 B3", []int{10, 50, 200, 90, -past}, []byte{10, 200, 50, 50, 90}},
		{"I0 P2 B1 P4 B3", []int{10, 50, 200, 90, -both}, []byte{10, 200, 50, 70, 90}},
		{"I0 P1 P2 P4 B3 P5", []int{10, 50, 90, 110, -both, -past}, []byte{10, 50, 90, 100, 110, 110}},
		// A group comes from its own pictures alone.
		{"I0 P2 B1 I3 P5 B4 P6", []int{10, 50, -next, 100, 200, -both, -past}, []byte{10, 50, 50, 100, 150, 200, 200}},
		{"I0 P2 B1 I3 P4 P6 B5", []int{10, 50, -past, 100, -past, 200, -past}, []byte{10, 10, 50, 100, 100, 100, 200}},
		{"I0 P3 B1 B2 I4 I5 P7 B6", []int{10, 50, 8, 9, 20, 30, 60, -past}, []byte{10, 8, 9, 50, 20, 30, 30, 60}},
	} {
		for _, s := range sizes[:5] {
			h := heads(c.film)
			var l [][]byte
			var want []api.Frame
			for at, n := range c.told {
				if n < 0 {
					l = append(l, raw(h[at], all(s, -n)))
					continue
				}
				// Without a past, as an I is told; a P, and a B, are told as if grey had been there.
				payload, _, _ := encode.Picture(s, api.Head{}, flat(s, byte(n)), api.Frame{}, api.Frame{})
				l = append(l, raw(h[at], payload))
			}
			for _, n := range c.want {
				want = append(want, flat(s, n))
			}
			checkDecode(t, s, l, want)
		}
	}
}

// P16.2: films of all shapes and sizes are decoded as the chapter's words have it; a quality and a full of each picture's own, too.
func TestDecodeAsTheWords(t *testing.T) {
	n := numbers(11)
	for _, s := range sizes[:7] {
		for many := range 12 {
			h := n.film(many + 1)
			l, want := plainEncode(t, s, h, n.frames(s, many+1))
			checkDecode(t, s, l, want)
		}
	}
	s := sized(64, 64)
	h := n.film(5)
	l, want := plainEncode(t, s, h, n.frames(s, 5))
	checkDecode(t, s, l, want)
}

// P16.2: films of 8 by 8 of as many pictures as may be, and fewer.
func TestDecodeLong(t *testing.T) {
	n := numbers(12)
	s := sized(8, 8)
	for _, many := range []int{40, 100, 199, 200} {
		h := n.film(many)
		l, want := plainEncode(t, s, h, n.frames(s, many))
		checkDecode(t, s, l, want)
		// One more is too many, whatever it is.
		if many == 200 {
			checkNoDecode(t, s, append(l, raw(api.Head{Display: 200}, l[0][10:])), api.ErrStream)
			checkNoDecode(t, s, append(l, nil), api.ErrStream)
		}
	}
}

// P16.2: sequences that may be, at their edges.
func TestDecodeSequences(t *testing.T) {
	n := numbers(13)
	h := n.film(6)
	l, want := plainEncode(t, sized(8, 8), h, n.frames(sized(8, 8), 6))
	for _, s := range rightSequences() {
		checkDecode(t, s, l, want)
	}
}

// P16.2: which error stands where several could: the sequence's, ahead of the film's, ahead of a payload's.
func TestDecodeErrors(t *testing.T) {
	n := numbers(14)
	s := sized(8, 8)
	right, _ := plainEncode(t, s, heads("I0 P2 B1 I3"), n.frames(s, 4))
	broken := slices.Clone(right)
	broken[0] = broken[0][:10]
	none := [][]byte{right[0], right[1], right[3], right[2]}
	noPicture := slices.Clone(broken)
	noPicture[3] = []byte{1, 2, 3}
	for _, wrong := range wrongSequences() {
		for _, l := range [][][]byte{right, broken, none, noPicture, nil, make([][]byte, 201)} {
			checkNoDecode(t, wrong, l, api.ErrHead)
		}
	}
	checkNoDecode(t, s, nil, api.ErrStream)
	checkNoDecode(t, s, make([][]byte, 201), api.ErrStream)
	checkNoDecode(t, s, none, api.ErrStream)
	checkNoDecode(t, s, [][]byte{broken[0], right[1], right[3], right[2]}, api.ErrStream)
	checkNoDecode(t, s, right[1:], api.ErrStream)
	for _, wrong := range noPictures() {
		for at := range 4 {
			for _, l := range [][][]byte{right, broken, none} {
				l = slices.Clone(l)
				l[at] = wrong
				checkNoDecode(t, s, l, api.ErrHead)
			}
		}
	}
	_, _, want := decodeAlone(s, broken[0])
	checkNoDecode(t, s, broken, want)
}

// decodeAlone is what picture.Decode answers of a picture, beside frames of one sample.
func decodeAlone(s api.Sequence, b []byte) (api.Head, api.Frame, api.Errno) {
	h := api.Head{Kind: int(b[0])}
	f, e := picture.Decode(s, h, b[10:], flat(s, 0), flat(s, 0))
	return h, f, e
}

// faults are payloads that are none, of a kind of picture, each with another error where there is one.
func faults(t *testing.T, s api.Sequence, kind int) map[api.Errno][]byte {
	t.Helper()
	l := map[api.Errno][]byte{}
	n := numbers(15)
	for range 4000 {
		b := raw(api.Head{Kind: kind}, n.bytes(n.below(60)))
		if _, _, e := decodeAlone(s, b); e != api.OK && l[e] == nil {
			l[e] = b[10:]
		}
	}
	b := raw(api.Head{Kind: kind}, append(all(s, 0), 128))
	if _, _, e := decodeAlone(s, b); e != api.ErrPicture {
		t.Fatalf("%d", e)
	}
	l[api.ErrPicture] = b[10:]
	if len(l) < 2 {
		t.Fatalf("there is one fault alone: %v", l)
	}
	return l
}

// P16.2: a payload that is none, at each place; of two of them, the one that is told first.
func TestDecodeFaults(t *testing.T) {
	n := numbers(16)
	s := sized(8, 8)
	h := heads("I0 P3 B1 B2 I4 P6 B5")
	right, _ := plainEncode(t, s, h, n.frames(s, 7))
	var each []map[api.Errno][]byte
	for kind := range 3 {
		each = append(each, faults(t, s, kind))
	}
	for first := range h {
		for want, fault := range each[h[first].Kind] {
			l := slices.Clone(right)
			l[first] = raw(h[first], fault)
			checkNoDecode(t, s, l, want)
			for second := first + 1; second < len(h); second++ {
				for other, fault := range each[h[second].Kind] {
					if other != want {
						two := slices.Clone(l)
						two[second] = raw(h[second], fault)
						checkNoDecode(t, s, two, want)
					}
				}
			}
		}
	}
}

// P16.2: payloads of none, cut short, with more behind, or of another size, at each place.
func TestDecodeCut(t *testing.T) {
	n := numbers(17)
	s := sized(16, 8)
	h := heads("I0 P2 B1 P3 I4 P6 B5")
	right, _ := plainEncode(t, s, h, n.frames(s, 7))
	for _, size := range []api.Sequence{sized(8, 8), sized(16, 16), sized(64, 64), sized(24, 8)} {
		want, e := plainDecode(size, h, right)
		if e == api.OK {
			t.Fatal("one size is as good as another")
		}
		if got, again := Decode(size, right); again != e || len(got) != len(want) {
			t.Fatalf("%d, not %d", again, e)
		}
	}
	for at := range h {
		for many := 10; many < len(right[at]); many++ {
			l := slices.Clone(right)
			l[at] = l[at][:many]
			_, want := plainDecode(s, h, l)
			if want == api.OK {
				t.Fatalf("%d: %d bytes are enough", at, many)
			}
			checkNoDecode(t, s, l, want)
		}
		for _, behind := range [][]byte{{0}, {128}, {0, 0, 0}, right[0]} {
			l := slices.Clone(right)
			l[at] = append(bytes.Clone(l[at]), behind...)
			_, want := plainDecode(s, h, l)
			if want == api.OK {
				t.Fatalf("%d: more bytes are right too", at)
			}
			checkNoDecode(t, s, l, want)
		}
		l := slices.Clone(right)
		other, _ := plainEncode(t, sized(16, 16), h, n.frames(sized(16, 16), 7))
		l[at] = other[at]
		_, want := plainDecode(s, h, l)
		if want == api.OK {
			t.Fatal("another size is right too")
		}
		checkNoDecode(t, s, l, want)
	}
}

// P16.2, R1: films whose bytes were changed by chance are what the chapter's words make of them.
func TestDecodeChanged(t *testing.T) {
	n := numbers(18)
	s := sized(8, 8)
	fine := 0
	for range 300 {
		h := n.film(1 + n.below(7))
		right, _ := plainEncode(t, s, h, n.frames(s, len(h)))
		for range 10 {
			l := slices.Clone(right)
			at := n.below(len(l))
			l[at] = bytes.Clone(l[at])
			l[at][10+n.below(len(l[at])-10)] ^= 1 << n.below(8)
			want, e := plainDecode(s, h, l)
			if e != api.OK {
				checkNoDecode(t, s, l, e)
				continue
			}
			fine++
			checkDecode(t, s, l, want)
		}
	}
	if fine < 100 {
		t.Errorf("only %d could be decoded", fine)
	}
}

// soil writes over all of a frame's planes, and their spare room.
func soil(f api.Frame) {
	for p := range f.Planes {
		for i := range f.Planes[p][:cap(f.Planes[p])] {
			f.Planes[p][:cap(f.Planes[p])][i] ^= 0xFF
		}
	}
}

// checkApart: no plane of frames shares memory with another one of them, spare room too.
func checkApart(t *testing.T, l []api.Frame) {
	t.Helper()
	was := keptAll(l)
	for at := range l {
		for p := range l[at].Planes {
			samples := l[at].Planes[p][:cap(l[at].Planes[p])]
			for i := range samples {
				samples[i] ^= 0xFF
			}
			for other := range l {
				for q := range l[other].Planes {
					if (at != other || p != q) && !bytes.Equal(l[other].Planes[q], was[other].Planes[q]) {
						t.Fatalf("the planes %d of %d and %d of %d share memory", p, at, q, other)
					}
				}
			}
			for i := range samples {
				samples[i] ^= 0xFF
			}
		}
	}
}

// P16.2, R4: the pictures stay as they were, spare room too; the frames share no memory with them, nor with one another, nor with other answers.
func TestDecodeKeeps(t *testing.T) {
	n := numbers(19)
	s := sized(16, 8)
	for _, film := range []string{"I0", "I0 P1 P2", "I0 P3 B1 B2 I4 P6 B5"} {
		h := heads(film)
		pictures, want := plainEncode(t, s, h, n.frames(s, len(h)))
		l, room := rooms(pictures)
		was := bytes.Clone(room)
		a, _ := Decode(s, l)
		b, _ := Decode(s, l)
		if !bytes.Equal(room, was) {
			t.Fatalf("%s: the pictures have changed", film)
		}
		checkRooms(t, l)
		clear(room)
		for _, f := range b[:cap(b)] {
			soil(f)
		}
		clear(b[:cap(b)])
		if !slices.EqualFunc(a, want, same) {
			t.Fatalf("%s: the frames share memory with the pictures, or with others", film)
		}
		checkApart(t, a)
	}
}

// P16.2, R4: frames that are alike are memory of their own, too: those that are taken over whole.
func TestDecodeAlikeApart(t *testing.T) {
	s := sized(8, 8)
	h := heads("I0 P3 B1 B2 P4 I5")
	l := [][]byte{raw(h[0], all(s, 0)), raw(h[1], all(s, api.MPast)), raw(h[2], all(s, api.MPast)), raw(h[3], all(s, api.MNext)), raw(h[4], all(s, api.MPast)), raw(h[5], all(s, 0))}
	got, e := Decode(s, l)
	if e != api.OK {
		t.Fatal(e)
	}
	for at, f := range got {
		if !same(f, flat(s, 128)) {
			t.Errorf("%d: %v", at, f)
		}
	}
	checkApart(t, got)
}
