package stream

import (
	"bytes"
	"math"
	"slices"
	"testing"

	"clapboard/api"
	"clapboard/head"
)

// elsewhere are pictures with other places and fulls, by the chapter's words.
func elsewhere(h []api.Head, l [][]byte, from int, fulls []int) [][]byte {
	var again [][]byte
	for at, b := range l {
		x := h[at]
		x.Display += from
		x.Full = fulls[at]
		again = append(again, raw(x, b[10:]))
	}
	return again
}

// checkAgain holds Again to pictures.
func checkAgain(t *testing.T, l [][]byte, from int, fulls []int, want [][]byte) {
	t.Helper()
	if got, e := Again(l, from, fulls); e != api.OK || !samePictures(got, want) {
		t.Fatalf("%d, %v: %v, %d, not %v", from, fulls, got, e, want)
	}
}

// checkNoAgain: there is nothing but an error.
func checkNoAgain(t *testing.T, l [][]byte, from int, fulls []int, want api.Errno) {
	t.Helper()
	if got, e := Again(l, from, fulls); e != want || len(got) != 0 {
		t.Fatalf("%d, %v: %v, %d, not %d", from, fulls, got, e, want)
	}
}

// fulls are so many that may be.
func (n *numbers) fulls(many int) []int {
	l := make([]int, many)
	for i := range l {
		l[i] = n.below(1<<30 + 1)
	}
	return l
}

// P16.4: pictures by hand: each has another Display, and a Full of its own; the kind, the quality and the payload stay.
func TestAgainByHand(t *testing.T) {
	l := [][]byte{{0, 5, 0, 0, 0, 0, 0, 0, 0, 9, 1, 2, 3}, {1, 6, 0, 0, 0, 2, 0, 0, 0, 8}, {2, 7, 0, 0, 0, 1, 0, 0, 0, 0, 255}}
	checkAgain(t, l, 7, []int{1, 256, 1 << 30}, [][]byte{{0, 5, 0, 0, 0, 7, 0, 0, 0, 1, 1, 2, 3}, {1, 6, 0, 0, 0, 9, 0, 0, 1, 0}, {2, 7, 0, 0, 0, 8, 64, 0, 0, 0, 255}})
	checkAgain(t, l, 0, []int{9, 8, 0}, l)
	checkAgain(t, l[1:], -1, []int{0, 0}, [][]byte{{1, 6, 0, 0, 0, 1, 0, 0, 0, 0}, {2, 7, 0, 0, 0, 0, 0, 0, 0, 0, 255}})
	checkAgain(t, l, 1<<24-3, []int{9, 8, 0}, [][]byte{{0, 5, 0, 255, 255, 253, 0, 0, 0, 9, 1, 2, 3}, {1, 6, 0, 255, 255, 255, 0, 0, 0, 8}, {2, 7, 0, 255, 255, 254, 0, 0, 0, 0, 255}})
}

// P16.4: of none there is none, wherever it is laid.
func TestAgainOfNone(t *testing.T) {
	for _, from := range append([]int{0, 1, 7, 1 << 24}, far...) {
		checkAgain(t, nil, from, nil, nil)
		checkAgain(t, [][]byte{}, from, []int{}, nil)
		checkAgain(t, nil, from, []int{}, nil)
		checkAgain(t, [][]byte{}, from, nil, nil)
	}
}

// P16.4: pictures of all kinds, of films and of none, however many.
func TestAgainAsTheWords(t *testing.T) {
	n := numbers(41)
	for range 300 {
		var h []api.Head
		var l [][]byte
		for range n.below(250) {
			x := api.Head{Kind: n.below(3), Quality: n.below(21), Display: 1<<23 + n.below(1<<10), Full: n.below(1<<30 + 1)}
			h, l = append(h, x), append(l, raw(x, n.bytes(n.below(20))))
		}
		fulls := n.fulls(len(l))
		from := n.below(1<<24-1<<11) - 1<<23
		checkAgain(t, l, from, fulls, elsewhere(h, l, from, fulls))
	}
	many := make([][]byte, 1000)
	for at := range many {
		many[at] = raw(api.Head{Kind: 2, Display: at}, []byte{byte(at)})
	}
	if got, e := Again(many, 5, make([]int, 1000)); e != api.OK || len(got) != 1000 || !bytes.Equal(got[999], raw(api.Head{Kind: 2, Display: 1004}, []byte{231})) {
		t.Errorf("%d, %d", len(got), e)
	}
}

// P16.4: a Display that comes out just as it may be, and one beyond; and sums at both ends of an int, and beyond them.
func TestAgainDisplays(t *testing.T) {
	for _, display := range []int{0, 1, 2, 1 << 23, 1<<24 - 2, 1<<24 - 1} {
		l := [][]byte{raw(api.Head{Display: display}, []byte{1})}
		for _, sum := range []int{0, 1, 1<<24 - 2, 1<<24 - 1} {
			checkAgain(t, l, sum-display, []int{3}, [][]byte{raw(api.Head{Display: sum, Full: 3}, []byte{1})})
		}
		for _, sum := range append([]int{1 << 24, 1<<24 + 1}, far...) {
			checkNoAgain(t, l, sum-display, []int{3}, api.ErrHead)
		}
		for _, from := range []int{math.MinInt, math.MinInt + 1, math.MinInt + 1<<24, math.MaxInt, math.MaxInt - 1, math.MaxInt - 1<<24, math.MinInt64 + 1<<32, math.MaxInt64 - 1<<32} {
			checkNoAgain(t, l, from, []int{3}, api.ErrHead)
		}
	}
}

// P16.4: a Display, or a Full, that may not be, at each place.
func TestAgainHeads(t *testing.T) {
	l := bare(heads("I5 P7 B6 I8 P9"))
	for at := range l {
		fulls := []int{1, 2, 3, 4, 5}
		for _, wrong := range far {
			fulls[at] = wrong
			checkNoAgain(t, l, 0, fulls, api.ErrHead)
			checkNoAgain(t, l, 3, fulls, api.ErrHead)
		}
		fulls[at] = 1 << 30
		if _, e := Again(l, 0, fulls); e != api.OK {
			t.Errorf("%d: %d", at, e)
		}
		// One alone is beyond.
		places := slices.Clone(l)
		places[at] = raw(api.Head{Display: 1<<24 - 1}, nil)
		checkNoAgain(t, places, 1, fulls, api.ErrHead)
		places[at] = raw(api.Head{}, nil)
		checkNoAgain(t, places, -1, fulls, api.ErrHead)
	}
}

// P16.4: fulls of fewer and more members are told ahead of all else; what is no picture, at each place.
func TestAgainErrors(t *testing.T) {
	l := bare(heads("I0 P2 B1"))
	for _, many := range []int{0, 1, 2, 4, 5, 6, 259} {
		fulls := make([]int, many)
		checkNoAgain(t, l, 0, fulls, api.ErrArg)
		checkNoAgain(t, [][]byte{nil, {1}, l[0]}, -5, fulls, api.ErrArg)
		for i := range fulls {
			fulls[i] = -1
		}
		checkNoAgain(t, l, math.MinInt, fulls, api.ErrArg)
		if many > 0 {
			checkNoAgain(t, nil, 0, fulls, api.ErrArg)
		}
	}
	for many := range 3 {
		checkNoAgain(t, l[:many+1], 0, make([]int, many), api.ErrArg)
	}
	for _, wrong := range noPictures() {
		_, _, want := head.Read(wrong)
		for at := range l {
			broken := slices.Clone(l)
			broken[at] = wrong
			checkNoAgain(t, broken, 0, []int{1, 2, 3}, want)
			checkNoAgain(t, broken, 5, []int{1, 2, -3}, want)
		}
	}
}

// P16.4, R4: pictures and fulls stay as they were, spare room too; what is answered shares no memory with them, nor with one another.
func TestAgainKeeps(t *testing.T) {
	n := numbers(42)
	for many := 1; many < 40; many++ {
		h := n.film(many)
		l, room := rooms(bare(h))
		was := bytes.Clone(room)
		fulls := n.fulls(many + 3)
		fullsWere := slices.Clone(fulls)
		want := elsewhere(h, bare(h), 9, fulls)
		a, _ := Again(l, 9, fulls[:many])
		b, _ := Again(l, 9, fulls[:many])
		same, _ := Again(a, 0, fulls[:many])
		if !bytes.Equal(room, was) || !slices.Equal(fulls, fullsWere) {
			t.Fatalf("%d: the pictures have changed, or the fulls", many)
		}
		checkRooms(t, l)
		clear(room)
		for _, c := range append(b, same...) {
			clear(c[:cap(c)])
		}
		if !samePictures(a, want) {
			t.Fatalf("%d: what is answered shares memory", many)
		}
		checkPicturesApart(t, a)
	}
}

// P16.5: another Full changes no frame; nor does another place: a film that is laid elsewhere, and back, is decoded as it was, and so is one that is laid behind another one.
func TestAgainFrames(t *testing.T) {
	n := numbers(43)
	for _, s := range sizes[:5] {
		for many := 1; many < 7; many++ {
			p := api.Plan{Group: 1 + n.below(5), Between: n.below(4), Quality: n.below(21)}
			first, made := encoded(t, s, p, n.frames(s, many))
			other, behind := encoded(t, s, api.Plan{Group: 3, Between: 1, Quality: n.below(21)}, n.frames(s, 5))
			full := laid(t, first, 0, n.fulls(many))
			checkDecode(t, s, full, made)
			far := laid(t, other, 1<<24-5, n.fulls(5))
			checkNoDecode(t, s, far, api.ErrStream)
			checkDecode(t, s, laid(t, far, 5-1<<24, n.fulls(5)), behind)
			both := slices.Concat(full, laid(t, other, many, n.fulls(5)))
			checkDecode(t, s, both, slices.Concat(made, behind))
			// By themselves, they are no film there: but the payloads are the same.
			h, _ := Heads(other)
			if got, e := plainDecode(s, h, far); e != api.OK || !slices.EqualFunc(got, behind, same) {
				t.Fatalf("%+v: %d", p, e)
			}
		}
	}
}

// laid is a film at other places.
func laid(t *testing.T, l [][]byte, from int, fulls []int) [][]byte {
	t.Helper()
	again, e := Again(l, from, fulls)
	if e != api.OK {
		t.Fatalf("%d, %v: %d", from, fulls, e)
	}
	return again
}
