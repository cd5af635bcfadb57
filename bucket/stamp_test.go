package bucket

import (
	"bytes"
	"math"
	"slices"
	"strconv"
	"strings"
	"testing"

	"clapboard/api"
	"clapboard/plane"
	"clapboard/stream"
)

// raw is a picture, by chapter 11's words: its head's ten bytes, and its payload.
func raw(h api.Head, payload []byte) []byte {
	b := []byte{byte(h.Kind), byte(h.Quality)}
	for _, n := range []int{h.Display, h.Full} {
		b = append(b, byte(n>>24), byte(n>>16), byte(n>>8), byte(n))
	}
	return append(b, payload...)
}

// heads are those that a text tells: of each its kind's letter, and its Display.
func heads(text string) []api.Head {
	var l []api.Head
	for _, word := range strings.Fields(text) {
		display, _ := strconv.Atoi(word[1:])
		l = append(l, api.Head{Kind: strings.IndexByte("IPB", word[0]), Display: display})
	}
	return l
}

// pictures are those of heads, of so many bytes each, ten at least.
func pictures(l []api.Head, sizes []int) [][]byte {
	var all [][]byte
	for at, h := range l {
		all = append(all, raw(h, bytes.Repeat([]byte{byte(at + 1)}, sizes[at]-10)))
	}
	return all
}

// film are the heads of a film of so many pictures, whose groups, and steps, are as long as chance has it; and whose qualities and fulls are any.
func (n *numbers) film(many int) []api.Head {
	var l []api.Head
	tell := func(kind, display int) {
		l = append(l, api.Head{Kind: kind, Quality: n.below(21), Display: display, Full: n.below(1<<30 + 1)})
	}
	for at := 0; at < many; {
		if at == 0 || n.below(4) == 0 {
			tell(0, at)
			at++
			continue
		}
		next := min(at+n.below(1+n.below(8)), many-1)
		tell(1, next)
		for ; at < next; at++ {
			tell(2, at)
		}
		at++
	}
	return l
}

// sizes are so many that a sequence lets be, of ten to most bytes each.
func (n *numbers) sizes(s api.Sequence, many, most int) []int {
	l := make([]int, many)
	for at := range l {
		l[at] = 10
		l[at] += n.below(min(most, full(s, l, at)) - 9)
	}
	return l
}

// stamped are pictures with other fulls, by the chapter's words.
func stamped(l [][]byte, fulls []int) [][]byte {
	var all [][]byte
	for at, b := range l {
		n := fulls[at]
		all = append(all, slices.Concat(b[:6], []byte{byte(n >> 24), byte(n >> 16), byte(n >> 8), byte(n)}, b[10:]))
	}
	return all
}

// sizesOf are how many bytes pictures have.
func sizesOf(l [][]byte) []int {
	var sizes []int
	for _, b := range l {
		sizes = append(sizes, len(b))
	}
	return sizes
}

// samePictures tells whether two films' pictures are the same.
func samePictures(a, b [][]byte) bool {
	return slices.EqualFunc(a, b, bytes.Equal)
}

// checkStamp holds Stamp to pictures.
func checkStamp(t *testing.T, s api.Sequence, l, want [][]byte) {
	t.Helper()
	if got, at, e := Stamp(s, l); e != api.OK || at != -1 || !samePictures(got, want) {
		t.Fatalf("%+v, %v: %v, %d, %d, not %v", s, l, got, at, e, want)
	}
}

// checkStampWords holds Stamp to the chapter's words; and what it answers to Check, and to stream.Heads.
func checkStampWords(t *testing.T, s api.Sequence, l [][]byte) {
	t.Helper()
	fulls, at, e := plainFill(s, sizesOf(l))
	if e != api.OK {
		checkNeither(t, s, l, at, e)
		return
	}
	checkStamp(t, s, l, stamped(l, fulls))
	got, _, _ := Stamp(s, l)
	checkRight(t, s, got)
	was, _ := stream.Heads(l)
	h, e := stream.Heads(got)
	if e != api.OK || len(h) != len(l) {
		t.Fatalf("%v: %d", got, e)
	}
	for at := range h {
		was[at].Full = fulls[at]
	}
	if !slices.Equal(h, was) {
		t.Fatalf("%v, not %v", h, was)
	}
}

// checkNeither: Stamp answers nothing but a place and an error, and Check the same ones.
func checkNeither(t *testing.T, s api.Sequence, l [][]byte, at int, e api.Errno) {
	t.Helper()
	if got, gotAt, gotE := Stamp(s, l); gotAt != at || gotE != e || len(got) != 0 {
		t.Fatalf("%+v, %v: %v, %d, %d, not %d, %d", s, l, got, gotAt, gotE, at, e)
	}
	checkWrong(t, s, l, at, e)
}

// noFilm are pictures that are no film, and the error that they have.
type noFilm struct {
	l [][]byte
	e api.Errno
}

// noFilms are pictures that are no film, each by one thing alone.
func noFilms() map[string]noFilm {
	good := func() [][]byte { return pictures(heads("I0 P2 B1 I3"), []int{10, 12, 11, 10}) }
	long := func(many int) [][]byte {
		var l []api.Head
		for at := range many {
			l = append(l, api.Head{Kind: min(at, 1), Display: at})
		}
		return pictures(l, slices.Repeat([]int{10}, many))
	}
	all := map[string]noFilm{
		"none":        {nil, api.ErrStream},
		"empty":       {[][]byte{}, api.ErrStream},
		"201":         {long(201), api.ErrStream},
		"201, no":     {append(long(200), nil), api.ErrStream},
		"no I":        {pictures(heads("P0"), []int{10}), api.ErrStream},
		"from 1":      {pictures(heads("I1"), []int{10}), api.ErrStream},
		"twice":       {pictures(heads("I0 P1 P1"), []int{10, 10, 10}), api.ErrStream},
		"a gap":       {pictures(heads("I0 P2"), []int{10, 10}), api.ErrStream},
		"B of one":    {pictures(heads("I0 B1"), []int{10, 10}), api.ErrStream},
		"back":        {pictures(heads("I0 P3 B2 B1"), []int{10, 10, 10, 10}), api.ErrStream},
		"two groups":  {pictures(heads("I0 I2 B1"), []int{10, 10, 10}), api.ErrStream},
		"nil picture": {[][]byte{nil}, api.ErrHead},
	}
	for at := range 4 {
		for name, wrong := range map[string][]byte{
			"short":   make([]byte, 9),
			"kind":    raw(api.Head{Kind: 3}, nil),
			"quality": raw(api.Head{Quality: 21}, nil),
			"display": raw(api.Head{Display: 1 << 24}, nil),
			"full":    raw(api.Head{Full: 1<<30 + 1}, nil),
			"below 0": raw(api.Head{Full: -1}, nil),
		} {
			l := good()
			l[at] = wrong
			all[name+" "+strconv.Itoa(at)] = noFilm{l, api.ErrHead}
		}
	}
	return all
}

// P17.2: films by hand: each picture has another Full, and is as it was else; whatever its Full was.
func TestStampByHand(t *testing.T) {
	l := [][]byte{{0, 5, 0, 0, 0, 0, 0, 0, 0, 9, 1, 2, 3}, {1, 6, 0, 0, 0, 2, 64, 0, 0, 0}, {2, 7, 0, 0, 0, 1, 0, 1, 2, 3, 255}}
	checkStamp(t, held(10, 30), l, [][]byte{{0, 5, 0, 0, 0, 0, 0, 0, 0, 30, 1, 2, 3}, {1, 6, 0, 0, 0, 2, 0, 0, 0, 27}, {2, 7, 0, 0, 0, 1, 0, 0, 0, 27, 255}})
	checkStamp(t, held(1, 1<<30), l, [][]byte{{0, 5, 0, 0, 0, 0, 64, 0, 0, 0, 1, 2, 3}, {1, 6, 0, 0, 0, 2, 63, 255, 255, 244}, {2, 7, 0, 0, 0, 1, 63, 255, 255, 235, 255}})
	checkStamp(t, held(300, 300), l, [][]byte{{0, 5, 0, 0, 0, 0, 0, 0, 1, 44, 1, 2, 3}, {1, 6, 0, 0, 0, 2, 0, 0, 1, 44}, {2, 7, 0, 0, 0, 1, 0, 0, 1, 44, 255}})
	checkStamp(t, held(11, 13), l, [][]byte{{0, 5, 0, 0, 0, 0, 0, 0, 0, 13, 1, 2, 3}, {1, 6, 0, 0, 0, 2, 0, 0, 0, 11}, {2, 7, 0, 0, 0, 1, 0, 0, 0, 12, 255}})
}

// P17.2: films of all lengths, as the chapter's words have it; the payloads and the other numbers of a head stay.
func TestStampAsTheWords(t *testing.T) {
	n := numbers(11)
	for many := 1; many <= 200; many++ {
		s := held(10+n.below(20), 30+n.below(200))
		h := n.film(many)
		var l [][]byte
		for at, size := range n.sizes(s, many, 60) {
			l = append(l, raw(h[at], n.bytes(size-10)))
		}
		checkStampWords(t, s, l)
		got, _, _ := Stamp(s, l)
		for at := range l {
			if !bytes.Equal(got[at][:6], l[at][:6]) || !bytes.Equal(got[at][10:], l[at][10:]) {
				t.Fatalf("%d: %v, not %v", many, got[at], l[at])
			}
		}
		// What is stamped already stays as it is.
		checkStamp(t, s, got, got)
	}
}

// P17.2: with the least and the greatest rate and buffer that may be; a head alone has more bytes than the least buffer.
func TestStampEdges(t *testing.T) {
	for _, s := range edges() {
		for _, sizes := range [][]int{{10}, {11}, {10, 10, 10, 10}, {100, 101, 99, 10}, {12, 10, 2000, 10}} {
			checkStampWords(t, s, pictures(heads("I0 P2 B1 I3"[:3*len(sizes)-1]), sizes))
		}
	}
	checkNeither(t, held(1, 1), pictures(heads("I0"), []int{10}), 0, api.ErrBucket)
	checkNeither(t, held(9, 9), pictures(heads("I0"), []int{10}), 0, api.ErrBucket)
	checkStampWords(t, held(10, 10), pictures(heads("I0 I1 P2"), []int{10, 10, 10}))
	checkStampWords(t, held(1<<24, 1<<30), pictures(heads("I0 I1"), []int{1<<24 + 5, 10}))
}

// P17.2: a picture that is as great as what is held, and one that has one byte more, at each place; whatever its Full tells. The first one is told.
func TestTooLittle(t *testing.T) {
	n := numbers(12)
	for many := 1; many <= 40; many++ {
		s := held(10+n.below(9), 20+n.below(40))
		sizes := n.sizes(s, many, 40)
		h := n.film(many)
		for at := range many {
			just := slices.Concat(sizes[:at+1], slices.Repeat([]int{10}, many-at-1))
			just[at] = full(s, sizes, at)
			checkStampWords(t, s, pictures(h, just))
			over := slices.Clone(sizes)
			over[at] = full(s, sizes, at) + 1
			checkNeither(t, s, pictures(h, over), at, api.ErrBucket)
			h[at].Full = 1 << 30
			checkNeither(t, s, pictures(h, over), at, api.ErrBucket)
			if at < many-1 {
				over[at+1+n.below(many-at-1)] = 5000
				checkNeither(t, s, pictures(h, over), at, api.ErrBucket)
			}
		}
	}
}

// P17.2: what is no film is told with no place, ahead of what is more than is held.
func TestNoFilms(t *testing.T) {
	for name, c := range noFilms() {
		if _, e := stream.Heads(c.l); e != c.e {
			t.Fatalf("%s: %d", name, e)
		}
		for _, s := range append(edges(), held(10, 30), held(10, 1000)) {
			checkNeither(t, s, c.l, -1, c.e)
		}
		for at := range c.l {
			l := slices.Clone(c.l)
			if len(l[at]) >= 10 {
				l[at] = append(bytes.Clone(l[at]), make([]byte, 1000)...)
			}
			checkNeither(t, held(10, 30), l, -1, c.e)
		}
	}
}

// P17.2: a sequence that may not be is told ahead of all else.
func TestSequences(t *testing.T) {
	right := pictures(heads("I0 P2 B1 I3"), []int{10, 12, 11, 10})
	great := pictures(heads("I0 P2 B1 I3"), []int{5000, 12, 11, 10})
	for _, s := range wrongSequences() {
		for _, l := range [][][]byte{nil, right, great, {nil}, {{1, 2, 3}}, right[1:]} {
			checkNeither(t, s, l, -1, api.ErrHead)
		}
	}
}

// P17.2: films that are encoded: what is stamped is decoded as it was, and its Fulls are right.
func TestStampEncoded(t *testing.T) {
	n := numbers(13)
	for range 30 {
		s := held(1<<12, 1<<13)
		p := api.Plan{Group: 1 + n.below(6), Between: n.below(4), Quality: n.below(21)}
		var frames []api.Frame
		for range 1 + n.below(7) {
			f, e := plane.New(8, 8, byte(n.below(256)))
			if e != api.OK {
				t.Fatal(e)
			}
			copy(f.Planes[n.below(3)], n.bytes(16))
			frames = append(frames, f)
		}
		l, made, e := stream.Encode(s, p, frames)
		if e != api.OK {
			t.Fatalf("%+v: %d", p, e)
		}
		checkStampWords(t, s, l)
		got, _, _ := Stamp(s, l)
		again, e := stream.Decode(s, got)
		if e != api.OK || len(again) != len(made) {
			t.Fatalf("%+v: %d", p, e)
		}
		for at := range made {
			if plane.Far(again[at], made[at]) != 0 {
				t.Fatalf("%+v: the frame %d has changed", p, at)
			}
		}
		// What is encoded tells nothing of what is held.
		checkWrong(t, s, l, 0, api.ErrBucket)
	}
}

// rooms are pictures with spare room behind each, all of one piece: what is written beyond one is seen in the next one. The list has spare room, too.
func rooms(l [][]byte) ([][]byte, []byte) {
	many := 0
	for _, b := range l {
		many += len(b) + 3
	}
	all := bytes.Repeat([]byte{0xAA}, many)
	places := make([][]byte, 0, len(l)+2)
	at := 0
	for _, b := range l {
		places = append(places, all[at:at+copy(all[at:], b)])
		at += len(b) + 3
	}
	spare := places[:len(l)+2]
	spare[len(l)], spare[len(l)+1] = []byte("spare"), []byte("room")
	return places, all
}

// checkRooms: a list's spare room is as rooms made it.
func checkRooms(t *testing.T, l [][]byte) {
	t.Helper()
	spare := l[:len(l)+2]
	if string(spare[len(l)]) != "spare" || string(spare[len(l)+1]) != "room" {
		t.Fatalf("the spare room has changed: %v", spare[len(l):])
	}
}

// checkPicturesApart: no picture shares memory with another one, spare room too.
func checkPicturesApart(t *testing.T, l [][]byte) {
	t.Helper()
	for at := range l {
		all := l[at][:cap(l[at])]
		was := bytes.Clone(all)
		others := bytes.Join(slices.Concat(l[:at], l[at+1:]), nil)
		clear(all)
		if !bytes.Equal(bytes.Join(slices.Concat(l[:at], l[at+1:]), nil), others) {
			t.Fatalf("the picture %d shares memory with others", at)
		}
		copy(all, was)
	}
}

// P17.2, R4: pictures stay as they were, spare room too; what is answered shares no memory with them, nor with another answer, nor one picture with another.
func TestStampKeeps(t *testing.T) {
	n := numbers(14)
	for many := 1; many < 40; many++ {
		s := held(10+n.below(20), 30+n.below(200))
		film := pictures(n.film(many), n.sizes(s, many, 60))
		fulls, _, _ := plainFill(s, sizesOf(film))
		want := stamped(film, fulls)
		l, all := rooms(film)
		was := bytes.Clone(all)
		a, _, _ := Stamp(s, l)
		b, _, _ := Stamp(s, l)
		same, _, _ := Stamp(s, a)
		Check(s, l)
		if !bytes.Equal(all, was) || !samePictures(l, film) {
			t.Fatalf("%d: the pictures have changed", many)
		}
		checkRooms(t, l)
		clear(all)
		for _, c := range append(b, same...) {
			clear(c[:cap(c)])
		}
		clear(b[:cap(b)])
		if !samePictures(a, want) {
			t.Fatalf("%d: what is answered shares memory", many)
		}
		checkPicturesApart(t, a)
	}
}

// P17.2, R4: what is no film, and what has a sequence that may not be, stays as it was too, spare room as well.
func TestErrorsKeep(t *testing.T) {
	for name, c := range noFilms() {
		l, all := rooms(c.l)
		was := bytes.Clone(all)
		checkNeither(t, held(10, 300), l, -1, c.e)
		checkNeither(t, held(10, math.MaxInt), l, -1, api.ErrHead)
		if !bytes.Equal(all, was) {
			t.Fatalf("%s: the pictures have changed", name)
		}
		checkRooms(t, l)
	}
}
