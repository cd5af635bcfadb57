package stream

import (
	"bytes"
	"math"
	"slices"
	"strconv"
	"strings"
	"testing"

	"clapboard/api"
	"clapboard/head"
	"clapboard/order"
)

// numbers are numbers one behind the other that look like chance, and are the same in each run.
type numbers uint64

func (n *numbers) next() uint64 {
	*n = *n*6364136223846793005 + 1442695040888963407
	return uint64(*n >> 11)
}

// below is a number from 0 to m - 1.
func (n *numbers) below(m int) int { return int(n.next() % uint64(m)) }

// bytes are so many bytes.
func (n *numbers) bytes(many int) []byte {
	b := make([]byte, many)
	for i := range b {
		b[i] = byte(n.next())
	}
	return b
}

// heads are those that a text tells: of each its kind's letter, and its Display.
func heads(text string) []api.Head {
	var l []api.Head
	for _, word := range strings.Fields(text) {
		display, _ := strconv.Atoi(word[1:])
		l = append(l, api.Head{Kind: strings.IndexByte("IPB", word[0]), Display: display})
	}
	return l
}

// text tells heads.
func text(l []api.Head) string {
	var words []string
	for _, h := range l {
		words = append(words, "IPB"[h.Kind:h.Kind+1]+strconv.Itoa(h.Display))
	}
	return strings.Join(words, " ")
}

// raw is a picture, by chapter 11's words: its head's ten bytes, and its payload.
func raw(h api.Head, payload []byte) []byte {
	b := []byte{byte(h.Kind), byte(h.Quality)}
	for _, n := range []int{h.Display, h.Full} {
		b = append(b, byte(n>>24), byte(n>>16), byte(n>>8), byte(n))
	}
	return append(b, payload...)
}

// bare are pictures with short payloads, which nobody could decode.
func bare(l []api.Head) [][]byte {
	var pictures [][]byte
	for at, h := range l {
		pictures = append(pictures, raw(h, bytes.Repeat([]byte{byte(at)}, at%3)))
	}
	return pictures
}

// noPictures are bytes that are no picture, each by one thing alone.
func noPictures() [][]byte {
	l := [][]byte{nil, {}, {0}, make([]byte, 9), bytes.Repeat([]byte{255}, 9), bytes.Repeat([]byte{255}, 20)}
	for _, kind := range []int{3, 4, 127, 128, 255} {
		l = append(l, raw(api.Head{Kind: kind}, []byte{1}))
	}
	for _, quality := range []int{21, 22, 128, 255} {
		l = append(l, raw(api.Head{Quality: quality}, []byte{1}))
	}
	for _, n := range []int{-1, -2, math.MinInt32, 1 << 24, 1<<24 + 1, math.MaxInt32} {
		l = append(l, raw(api.Head{Display: n}, []byte{1}))
	}
	for _, n := range []int{-1, -2, math.MinInt32, 1<<30 + 1, math.MaxInt32} {
		l = append(l, raw(api.Head{Full: n}, []byte{1}))
	}
	return l
}

// planned are the heads of a film of n pictures that a plan makes.
func planned(t *testing.T, n int, p api.Plan) []api.Head {
	t.Helper()
	slots, e := order.Slots(n, p)
	if e != api.OK {
		t.Fatalf("%d, %+v: %d", n, p, e)
	}
	var l []api.Head
	for _, s := range slots {
		l = append(l, api.Head{Kind: s.Kind, Quality: p.Quality, Display: s.Display})
	}
	return l
}

// film are the heads of a film of n pictures whose groups, and steps, are as long as chance has it; and whose qualities and fulls are any.
func (n *numbers) film(many int) []api.Head {
	var l []api.Head
	tell := func(kind, display int) {
		l = append(l, api.Head{Kind: kind, Quality: n.below(21), Display: display, Full: n.below(1<<30 + 1)})
	}
	for at := 0; at < many; {
		if at == 0 || n.below(4) == 0 {
			tell(0, at)
			at++
			continue
		}
		next := min(at+n.below(1+n.below(8)), many-1)
		tell(1, next)
		for ; at < next; at++ {
			tell(2, at)
		}
		at++
	}
	return l
}

// group is of which group the picture at a place is: how many begin up to there.
func group(l []api.Head, at int) int {
	many := 0
	for _, h := range l[:at+1] {
		if h.Kind == 0 {
			many++
		}
	}
	return many
}

// ahead are the places of the anchors that are told ahead of a place, the nearest one first.
func ahead(l []api.Head, at int) []int {
	var places []int
	for k := at - 1; k >= 0; k-- {
		if l[k].Kind != 2 {
			places = append(places, k)
		}
	}
	return places
}

// stands tells whether the picture at a place is shown where the chapter lets it be, by its words.
func stands(l []api.Head, at int) bool {
	display, anchors := l[at].Display, ahead(l, at)
	switch l[at].Kind {
	case 0:
		return !slices.ContainsFunc(l[:at], func(h api.Head) bool { return h.Display >= display })
	case 1:
		return len(anchors) > 0 && l[anchors[0]].Display < display
	}
	if len(anchors) < 2 || group(l, anchors[0]) != group(l, anchors[1]) {
		return false
	}
	a, b := l[anchors[0]].Display, l[anchors[1]].Display
	if display <= min(a, b) || display >= max(a, b) {
		return false
	}
	return l[at-1].Kind != 2 || l[at-1].Display < display
}

// isFilm tells whether heads are a film's, by the chapter's words.
func isFilm(l []api.Head) bool {
	if len(l) < 1 || len(l) > 200 || l[0].Kind != 0 {
		return false
	}
	for at := range l {
		if !slices.ContainsFunc(l, func(h api.Head) bool { return h.Display == at }) || !stands(l, at) {
			return false
		}
	}
	return true
}

// checkHeads holds Heads to heads.
func checkHeads(t *testing.T, l [][]byte, want []api.Head) {
	t.Helper()
	if got, e := Heads(l); e != api.OK || !slices.Equal(got, want) {
		t.Fatalf("%v, %d, not %v", got, e, want)
	}
}

// checkNoHeads: there is nothing but an error.
func checkNoHeads(t *testing.T, l [][]byte, want api.Errno) {
	t.Helper()
	if got, e := Heads(l); e != want || len(got) != 0 {
		t.Fatalf("%v: %v, %d, not %d", l, got, e, want)
	}
}

// checkWords holds Heads to what the chapter's words make of heads, and tells whether they are a film's.
func checkWords(t *testing.T, l []api.Head) bool {
	t.Helper()
	if isFilm(l) {
		checkHeads(t, bare(l), l)
		return true
	}
	if got, e := Heads(bare(l)); e != api.ErrStream || len(got) != 0 {
		t.Fatalf("%s: %v, %d, not %d", text(l), got, e, api.ErrStream)
	}
	return false
}

// P16.1: the numbers that the chapter names.
func TestNumbers(t *testing.T) {
	if api.MaxFrames != 200 || api.ErrArg != 1 || api.ErrHead != 110 || api.ErrStream != 160 {
		t.Errorf("%d, %d, %d, %d", api.MaxFrames, api.ErrArg, api.ErrHead, api.ErrStream)
	}
	if api.PictureI != 0 || api.PictureP != 1 || api.PictureB != 2 {
		t.Errorf("%d, %d, %d", api.PictureI, api.PictureP, api.PictureB)
	}
}

// P16.1: films by hand.
func TestHeadsByHand(t *testing.T) {
	for _, film := range []string{
		"I0", "I0 I1", "I0 I1 I2", "I0 P1", "I0 P1 P2 P3", "I0 P2 B1", "I0 P3 B1 B2", "I0 P2 B1 P4 B3", "I0 P2 B1 I3 P4", "I0 P2 B1 I3 P5 B4",
		"I0 P1 P3 B2 P4 P6 B5", "I0 P1 I2 I3 P4 I5", "I0 P9 B1 B2 B3 B4 B5 B6 B7 B8 I10 P11", "I0 P4 B1 B2 B3 P6 B5 P10 B7 B8 B9",
	} {
		l := heads(film)
		checkHeads(t, bare(l), l)
	}
}

// P16.1: what is no film, each by one thing alone.
func TestHeadsNoFilms(t *testing.T) {
	for _, film := range []string{
		// One place is missing, told twice, or beyond the last one.
		"I1", "I200", "I16777215", "I0 P2", "I0 I2", "I0 P3 B1", "I0 P1 P3", "I0 P1 I3", "I1 P2", "I1 P3 B2", "I0 I0", "I0 P2 B1 B1", "I0 P3 B1 B1 P4", "I0 P16777215", "I0 P1 P2 P4", "I0 P256", "I0 P65537",
		// The first one is of others.
		"P0", "B0", "P0 P1", "P0 I1", "B0 I1", "B0 P1", "P0 P2 B1", "B1 I0 P2", "P1 I0",
		// A picture of itself is shown ahead of one that was told.
		"I1 I0", "I0 I2 I1", "I0 P2 I1", "I0 P1 I3 I2", "I0 P3 B1 I2", "I0 P3 B2 I1", "I0 P3 I1 P2", "I0 P3 I1 B2",
		// One from the one behind is shown ahead of its anchor.
		"I1 P0", "I0 P2 P1", "I0 P1 P3 P2", "I0 P1 I3 P2", "I0 I2 P1", "I0 P3 B1 P2", "I0 P3 B2 P1", "I2 P1 P0", "I1 P0 P2", "I0 P4 B2 P3 B1",
		// One from both sides is shown behind both, ahead of both, or as one of them.
		"I0 P1 B2", "I0 P1 B2 P3", "I1 P2 B0", "I0 P1 P2 B3", "I0 P2 P3 B1", "I0 P1 P3 B2 B4", "I0 P2 P4 B3 B1", "I0 P2 P4 B1 B3", "I0 P1 B1", "I0 P1 B0", "I0 P2 P3 B1 P4", "I0 P2 B2", "I0 P2 B0", "I0 P2 I3 B1",
		// Its anchors are of two groups.
		"I0 I2 B1", "I0 P1 I3 B2", "I0 P2 B1 I4 B3", "I0 I3 B1 B2", "I0 I1 I3 B2", "I0 P1 I3 B2 P4", "I0 I1 I2 I4 B3",
		// It has one anchor alone.
		"I0 B1", "I1 B0", "I0 B1 P2", "I0 B1 B2", "I0 B2 P1", "I0 P1 I2 B3", "I0 P1 I2 B3 P4", "I0 P2 B1 I3 B4",
		// Two side by side fall.
		"I0 P3 B2 B1", "I0 P4 B1 B3 B2", "I0 P4 B2 B1 B3", "I0 P4 B3 B2 B1", "I0 P3 B2 B1 P4", "I0 P1 P4 B3 B2", "I0 P2 B1 I3 P6 B5 B4",
	} {
		checkNoHeads(t, bare(heads(film)), api.ErrStream)
	}
}

// each goes through all kinds beside all Displays that a list of so many pictures may have.
func each(many, displays int, try func(l []api.Head)) {
	l := make([]api.Head, many)
	var fill func(at int)
	fill = func(at int) {
		if at == many {
			try(l)
			return
		}
		for kind := range 3 {
			for display := range displays {
				l[at] = api.Head{Kind: kind, Display: display}
				fill(at + 1)
			}
		}
	}
	fill(0)
}

// P16.1: all lists of up to three pictures with a Display beyond, and of four without, are films or none as the words have it.
func TestHeadsShort(t *testing.T) {
	// Of n pictures: one group of 1, or of 2^(k - 2) orders of k from 2 on, and what is behind it.
	want := []int{1, 1, 2, 5, 13}
	for _, c := range []struct{ many, displays int }{{1, 4}, {2, 5}, {3, 5}, {4, 4}} {
		films := 0
		each(c.many, c.displays, func(l []api.Head) {
			if checkWords(t, l) {
				films++
			}
		})
		if films != want[c.many] {
			t.Errorf("%d: %d films", c.many, films)
		}
	}
}

// P16.1: all orders of five pictures, of all kinds.
func TestHeadsOfFive(t *testing.T) {
	films := 0
	var try func(l []api.Head)
	try = func(l []api.Head) {
		if len(l) == 5 {
			if checkWords(t, l) {
				films++
			}
			return
		}
		for display := range 5 {
			if slices.ContainsFunc(l, func(h api.Head) bool { return h.Display == display }) {
				continue
			}
			for kind := range 3 {
				try(append(l[:len(l):len(l)], api.Head{Kind: kind, Display: display}))
			}
		}
	}
	try(nil)
	if films != 34 {
		t.Errorf("%d films", films)
	}
}

// P16.1: the films of each plan.
func TestHeadsOfPlans(t *testing.T) {
	for group := 1; group <= 16; group++ {
		for between := range 4 {
			for _, many := range []int{1, 2, 3, 4, 5, 8, 16, 17, 33, 100, 199, 200} {
				l := planned(t, many, api.Plan{Group: group, Between: between, Quality: (group + many) % 21})
				checkHeads(t, bare(l), l)
			}
		}
	}
}

// P16.1: longer films, and what comes of them when two pictures change places, one has another kind or Display, or is dropped.
func TestHeadsLong(t *testing.T) {
	n := numbers(1)
	films, none := 0, 0
	for range 400 {
		l := n.film(1 + n.below(200))
		checkHeads(t, bare(l), l)
		for range 20 {
			wrong := slices.Clone(l)
			a, b := n.below(len(l)), n.below(len(l))
			switch n.below(6) {
			case 0:
				wrong[a], wrong[b] = wrong[b], wrong[a]
			case 1:
				wrong[a].Kind = n.below(3)
			case 2:
				wrong[a].Display, wrong[b].Display = wrong[b].Display, wrong[a].Display
			case 3:
				wrong[a].Display = n.below(len(l) + 1)
			case 4:
				wrong = slices.Delete(wrong, a, a+1)
			case 5:
				b = min(a+1, len(l)-1)
				wrong[a].Display, wrong[b].Display = wrong[b].Display, wrong[a].Display
			}
			if checkWords(t, wrong) {
				films++
			} else {
				none++
			}
		}
	}
	if films < 100 || none < 100 {
		t.Errorf("%d films, %d none", films, none)
	}
}

// P16.1: films of one picture, and of as many as may be; none, and more.
func TestHeadsMany(t *testing.T) {
	checkNoHeads(t, nil, api.ErrStream)
	checkNoHeads(t, [][]byte{}, api.ErrStream)
	for _, many := range []int{1, 2, 199, 200, 201, 202, 255, 256, 257, 400} {
		for kind := range 2 {
			l := []api.Head{{}}
			for display := 1; display < many; display++ {
				l = append(l, api.Head{Kind: kind, Display: display})
			}
			if many <= 200 {
				checkHeads(t, bare(l), l)
			} else {
				checkNoHeads(t, bare(l), api.ErrStream)
			}
		}
	}
	checkNoHeads(t, make([][]byte, 1<<16), api.ErrStream)
}

// P16.1: each head is as it was written, at the ends of what its numbers may be, whatever the payload.
func TestHeadsAsTheyWere(t *testing.T) {
	n := numbers(2)
	for _, quality := range []int{0, 1, 19, 20} {
		for _, full := range []int{0, 1, 255, 256, 1 << 29, 1<<30 - 1, 1 << 30} {
			l := []api.Head{{Quality: quality, Full: full}, {Kind: 1, Quality: 20 - quality, Display: 2, Full: 1<<30 - full}, {Kind: 2, Quality: quality, Display: 1, Full: full}}
			var pictures [][]byte
			for _, h := range l {
				pictures = append(pictures, raw(h, n.bytes(n.below(40))))
			}
			checkHeads(t, pictures, l)
		}
	}
}

// P16.1: what is no picture is told ahead of what is no film, at each place; but how many there are is told ahead of it.
func TestHeadsErrors(t *testing.T) {
	for _, wrong := range noPictures() {
		_, _, want := head.Read(wrong)
		if want == api.OK {
			t.Fatalf("%v is a picture", wrong)
		}
		for _, film := range []string{"I0", "I0 P2 B1", "I0 P2 B1 I3 P4", "P0 P0", "I0 B1 I2", "I5 P4 B4 P1", "I0 I0 I0"} {
			l := bare(heads(film))
			for at := range l {
				broken := slices.Clone(l)
				broken[at] = wrong
				checkNoHeads(t, broken, want)
			}
			checkNoHeads(t, append(l, wrong), want)
		}
		for _, many := range []int{199, 200, 201, 202} {
			l := bare(planned(t, 200, api.Plan{Group: 4}))
			l = append(l, l...)[:many]
			for _, at := range []int{0, 1, many / 2, many - 1} {
				broken := slices.Clone(l)
				broken[at] = wrong
				if many > 200 {
					want = api.ErrStream
				}
				checkNoHeads(t, broken, want)
			}
		}
	}
}

// P16.1: where each group begins, and the end; none of no heads.
func TestGroups(t *testing.T) {
	for _, c := range []struct {
		film string
		want []int
	}{
		{"", nil}, {"I0", []int{0, 1}}, {"I0 P2 B1 I3 P4", []int{0, 3, 5}}, {"I0 I1 I2", []int{0, 1, 2, 3}}, {"I0 P1 P2 P3", []int{0, 4}}, {"I0 P2 B1 I3", []int{0, 3, 4}},
		// What is no film has groups too.
		{"P0", []int{1}}, {"B1 P0 B5", []int{3}}, {"P0 I1", []int{1, 2}}, {"B7 I7 I7 P7", []int{1, 2, 4}}, {"I9 I3", []int{0, 1, 2}},
	} {
		if got := Groups(heads(c.film)); !slices.Equal(got, c.want) {
			t.Errorf("%s: %v, not %v", c.film, got, c.want)
		}
	}
	if got := Groups([]api.Head{}); len(got) != 0 {
		t.Errorf("%v", got)
	}
}

// P16.1: groups of films of all lengths, and of heads that may not be.
func TestGroupsOfMany(t *testing.T) {
	n := numbers(3)
	for many := 1; many <= 450; many++ {
		l := n.film(many)
		for _, kind := range []int{-1, 3, 4, 256, math.MinInt, math.MaxInt, 1 << 32} {
			l = append(l, api.Head{Kind: kind, Quality: kind, Display: kind, Full: kind})
		}
		var want []int
		for at, h := range l {
			if h.Kind == 0 {
				want = append(want, at)
			}
		}
		want = append(want, len(l))
		was := slices.Clone(l)
		if got := Groups(l); !slices.Equal(got, want) || !slices.IsSorted(got) || !slices.Equal(l, was) {
			t.Fatalf("%d: %v, not %v", many, got, want)
		}
	}
}

// P16.1: the groups of a plan's film are those of the plan.
func TestGroupsOfPlans(t *testing.T) {
	for group := 1; group <= 16; group++ {
		for between := range 4 {
			for many := 1; many <= 200; many += 7 {
				h, e := Heads(bare(planned(t, many, api.Plan{Group: group, Between: between})))
				var want []int
				for at := 0; at < many; at += group {
					want = append(want, at)
				}
				if got := Groups(h); e != api.OK || !slices.Equal(got, append(want, many)) {
					t.Fatalf("%d, %d, %d: %v", group, between, many, got)
				}
			}
		}
	}
}

// rooms are pictures with spare room behind each, all of one piece: what is written beyond one is seen in the next one. The list has spare room, too.
func rooms(l [][]byte) ([][]byte, []byte) {
	many := 0
	for _, b := range l {
		many += len(b) + 3
	}
	all := bytes.Repeat([]byte{0xAA}, many)
	pictures := make([][]byte, 0, len(l)+2)
	at := 0
	for _, b := range l {
		pictures = append(pictures, all[at:at+copy(all[at:], b)])
		at += len(b) + 3
	}
	spare := pictures[:len(l)+2]
	spare[len(l)], spare[len(l)+1] = []byte("spare"), []byte("room")
	return pictures, all
}

// checkRooms: a list's spare room is as rooms made it.
func checkRooms(t *testing.T, l [][]byte) {
	t.Helper()
	spare := l[:len(l)+2]
	if string(spare[len(l)]) != "spare" || string(spare[len(l)+1]) != "room" {
		t.Fatalf("the spare room has changed: %v", spare[len(l):])
	}
}

// P16.1, R4: pictures and heads stay as they were, spare room too; what is answered shares no memory with them, nor with another answer.
func TestHeadsKeep(t *testing.T) {
	n := numbers(4)
	for many := 1; many < 40; many++ {
		want := n.film(many)
		l, all := rooms(bare(want))
		was := bytes.Clone(all)
		a, _ := Heads(l)
		b, _ := Heads(l)
		if !bytes.Equal(all, was) || !slices.Equal(a, want) {
			t.Fatalf("%d: the pictures have changed, or the heads", many)
		}
		checkRooms(t, l)
		clear(all)
		clear(b[:cap(b)])
		if !slices.Equal(a, want) {
			t.Fatalf("%d: the heads share memory", many)
		}
		spare := append(slices.Clone(a), a...)[:many]
		spareWas := slices.Clone(spare[:cap(spare)])
		g, again := Groups(spare), Groups(spare)
		groups := slices.Clone(again)
		clear(g[:cap(g)])
		if !slices.Equal(spare[:cap(spare)], spareWas) || !slices.Equal(again, groups) {
			t.Fatalf("%d: the heads have changed, or groups share memory", many)
		}
	}
}
