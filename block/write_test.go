package block

import (
	"math"
	"slices"
	"strconv"
	"strings"
	"testing"

	"clapboard/api"
	"clapboard/bits"
	"clapboard/scan"
	"clapboard/vector"
)

// guesses are vectors to write beside: such as may be, such as may not, and both ends of an int.
var guesses = []api.Vector{none, of(1, 0), of(31, -31), of(-32, 64), of(65, -65), of(math.MinInt, math.MaxInt)}

// whole are the bits of Whole, by chapter 1's words.
func whole(n int) string {
	m := strconv.FormatInt(int64(n)+1, 2)
	return strings.Repeat("0", len(m)-1) + m
}

// signed are those of Signed.
func signed(n int) string {
	if n > 0 {
		return whole(2*n - 1)
	}
	return whole(-2 * n)
}

// text are the bits of a writer.
func text(w *bits.Writer) string {
	s := ""
	for _, b := range w.Bytes() {
		n := strconv.FormatInt(int64(b), 2)
		s += strings.Repeat("0", 8-len(n)) + n
	}
	return s[:w.Many()]
}

// written are the bits that a layer below writes.
func written(write func(w *bits.Writer)) string {
	w := &bits.Writer{}
	write(w)
	return text(w)
}

// parts are the bits of a choice that may be, by the chapter's words, part by part: of its mode, of each of its vectors, of its levels.
func parts(c api.Choice, past, next api.Vector) []string {
	l := []string{whole(c.Mode)}
	if c.Mode == 4 || c.Mode == 6 {
		l = append(l, written(func(w *bits.Writer) { vector.Write(w, c.Past, past) }))
	}
	if c.Mode == 5 || c.Mode == 6 {
		l = append(l, written(func(w *bits.Writer) { vector.Write(w, c.Next, next) }))
	}
	return append(l, written(func(w *bits.Writer) { scan.Write(w, c.Levels) }))
}

// model are all of its bits.
func model(c api.Choice, past, next api.Vector) string {
	return strings.Join(parts(c, past, next), "")
}

// checkWrite: what Write adds, and that it leaves what was there.
func checkWrite(t *testing.T, kind int, c api.Choice, past, next api.Vector) {
	t.Helper()
	const ahead = "10110"
	w := &bits.Writer{}
	w.Fixed(0b10110, len(ahead))
	if e := Write(w, kind, c, past, next); e != api.OK {
		t.Fatalf("kind %d, %+v: %d", kind, c, e)
	}
	if got, want := text(w), ahead+model(c, past, next); got != want {
		t.Fatalf("kind %d, %+v beside %v, %v: %s, not %s", kind, c, past, next, got, want)
	}
}

// byHand are choices, and their bits.
var byHand = []struct {
	kind       int
	c          api.Choice
	past, next api.Vector
	want       string
}{
	{0, api.Choice{}, none, none, "1" + "1"},
	{2, api.Choice{}, of(3, 3), of(4, 4), "1" + "1"},
	{0, api.Choice{Mode: 1}, none, none, "010" + "1"},
	{1, api.Choice{Mode: 2}, none, none, "011" + "1"},
	{2, api.Choice{Mode: 3}, of(9, 9), none, "00100" + "1"},
	{0, api.Choice{Mode: 3, Levels: api.Block{5, 0, 0, 0, -1}}, none, none, "00100" + "011" + "1" + "0001010" + "010" + "011"},
	{1, api.Choice{Mode: 4}, none, of(8, 8), "00101" + "1" + "1" + "1"},
	{1, api.Choice{Mode: 4, Past: of(3, -1)}, of(1, 0), of(8, 8), "00101" + "00100" + "011" + "1"},
	{2, api.Choice{Mode: 5, Next: of(3, -1)}, of(8, 8), of(1, 0), "00110" + "00100" + "011" + "1"},
	{2, api.Choice{Mode: 6, Past: of(3, -1), Next: of(0, 1)}, of(1, 0), of(0, 0), "00111" + "00100" + "011" + "1" + "010" + "1"},
	{2, api.Choice{Mode: 6, Past: of(5, 5), Next: of(6, 6), Levels: api.Block{15: -1}}, of(5, 5), of(6, 6), "00111" + "1" + "1" + "1" + "1" + "010" + "000010000" + "011"},
	{1, api.Choice{Mode: 4, Past: of(31, -31)}, of(-64, 64), none, "00101" + signed(95) + signed(-95) + "1"},
	{1, api.Choice{Mode: 4, Past: of(31, -31)}, of(math.MinInt, math.MaxInt), none, "00101" + signed(95) + signed(-95) + "1"},
	{0, api.Choice{Levels: api.Block{1 << 20, -1 << 20}}, none, none, "1" + "011" + "1" + signed(1<<20) + "1" + signed(-1<<20)},
}

// P12.2: bits by hand.
func TestWriteByHand(t *testing.T) {
	for i, c := range byHand {
		w := &bits.Writer{}
		if e := Write(w, c.kind, c.c, c.past, c.next); e != api.OK || text(w) != c.want {
			t.Errorf("%d: %d, %s, not %s", i, e, text(w), c.want)
		}
		checkWrite(t, c.kind, c.c, c.past, c.next)
	}
}

// P12.2: each mode of each kind, beside each guess; of two vectors the past one stands ahead, and each beside its own guess.
func TestWriteEachMode(t *testing.T) {
	n := numbers(310)
	for kind := range 3 {
		for mode := range most(kind) + 1 {
			for _, past := range guesses {
				for _, next := range guesses {
					for range 4 {
						checkWrite(t, kind, n.choice(mode), past, next)
					}
				}
			}
		}
	}
}

// P12.2: vectors, and levels, at the ends.
func TestWriteEnds(t *testing.T) {
	ends := []int{-31, -30, 0, 30, 31}
	for _, x := range ends {
		for _, y := range ends {
			checkWrite(t, 1, api.Choice{Mode: 4, Past: of(x, y)}, of(31, -31), none)
			checkWrite(t, 2, api.Choice{Mode: 5, Next: of(x, y)}, none, of(-31, 31))
			checkWrite(t, 2, api.Choice{Mode: 6, Past: of(x, y), Next: of(y, x)}, of(5, 5), of(-7, 9))
		}
	}
	for at := range 16 {
		for _, n := range []int{-1 << 20, -1<<20 + 1, -1, 1, 1<<20 - 1, 1 << 20} {
			var c api.Choice
			c.Levels[at] = n
			checkWrite(t, 0, c, none, none)
			c.Levels[15-at] -= 3
			if Check(0, c) == api.OK {
				checkWrite(t, 0, c, none, none)
			}
		}
	}
}

// refused are choices that may not be, of a kind, each wrong in one way.
var refused = []struct {
	kind int
	c    api.Choice
	want api.Errno
}{
	{-1, api.Choice{}, api.ErrBlock},
	{3, api.Choice{}, api.ErrBlock},
	{math.MinInt, api.Choice{}, api.ErrBlock},
	{math.MaxInt, api.Choice{Mode: 6}, api.ErrBlock},
	{0, api.Choice{Mode: 4}, api.ErrBlock},
	{1, api.Choice{Mode: 5}, api.ErrBlock},
	{1, api.Choice{Mode: 6}, api.ErrBlock},
	{2, api.Choice{Mode: 7}, api.ErrBlock},
	{2, api.Choice{Mode: -1}, api.ErrBlock},
	{2, api.Choice{Mode: math.MinInt}, api.ErrBlock},
	{2, api.Choice{Mode: math.MaxInt}, api.ErrBlock},
	{0, api.Choice{Past: of(1, 0)}, api.ErrBlock},
	{2, api.Choice{Mode: 3, Next: of(0, 1)}, api.ErrBlock},
	{1, api.Choice{Mode: 4, Next: of(0, -1)}, api.ErrBlock},
	{2, api.Choice{Mode: 5, Past: of(-1, 0)}, api.ErrBlock},
	{1, api.Choice{Mode: 4, Past: of(32, 0)}, api.ErrVector},
	{2, api.Choice{Mode: 5, Next: of(0, -32)}, api.ErrVector},
	{2, api.Choice{Mode: 6, Past: of(math.MinInt, 0)}, api.ErrVector},
	{2, api.Choice{Mode: 6, Next: of(0, math.MaxInt)}, api.ErrVector},
	{2, api.Choice{Mode: 6, Past: of(4, 4), Next: of(0, 32)}, api.ErrVector},
	{0, api.Choice{Levels: api.Block{1<<20 + 1}}, api.ErrBlock},
	{2, api.Choice{Mode: 6, Levels: api.Block{15: -1<<20 - 1}}, api.ErrBlock},
	{1, api.Choice{Mode: 4, Levels: api.Block{15: math.MaxInt}}, api.ErrBlock},
	{0, api.Choice{Levels: api.Block{math.MinInt}}, api.ErrBlock},
	{2, api.Choice{Mode: 6, Past: of(32, 0), Levels: api.Block{math.MinInt}}, api.ErrBlock},
}

// P12.2, R3: beside an error nothing is written, neither ahead of all nor between others, and what is written behind it stands where it would.
func TestWriteRefused(t *testing.T) {
	w := &bits.Writer{}
	want := ""
	for i, c := range refused {
		empty := &bits.Writer{}
		if e := Write(empty, c.kind, c.c, of(1, 2), of(3, 4)); e != c.want || empty.Many() != 0 || len(empty.Bytes()) != 0 {
			t.Errorf("%d: %d, %d bits", i, e, empty.Many())
		}
		b := w.Bytes()
		if e := Write(w, c.kind, c.c, none, none); e != c.want || text(w) != want || !slices.Equal(w.Bytes(), b) {
			t.Errorf("%d: %d, %s, not %s", i, e, text(w), want)
		}
		right := api.Choice{Mode: i % 4, Levels: api.Block{i}}
		if e := Write(w, i%3, right, none, none); e != api.OK {
			t.Errorf("%d: %d", i, e)
		}
		want += model(right, none, none)
	}
	if text(w) != want {
		t.Errorf("%s, not %s", text(w), want)
	}
}

// P12.2: what Write answers of a choice that may not be is what Check does, and nothing is written; choices that look like chance.
func TestWriteAsChecked(t *testing.T) {
	n := numbers(311)
	for range 20000 {
		kind, c := n.below(5)-1, n.choice(n.below(7))
		switch n.below(6) {
		case 0:
			c.Mode = modes[n.below(len(modes))]
		case 1:
			c.Past = of(ways[n.below(len(ways))], ways[n.below(len(ways))])
		case 2:
			c.Next = of(ways[n.below(len(ways))], ways[n.below(len(ways))])
		case 3:
			c.Levels[n.below(16)] = heights[n.below(len(heights))]
		}
		if plain(kind, c) == api.OK {
			checkWrite(t, kind, c, n.vector(), guesses[n.below(len(guesses))])
			continue
		}
		w := &bits.Writer{}
		if e := Write(w, kind, c, none, none); e != plain(kind, c) || w.Many() != 0 {
			t.Fatalf("kind %d, %+v: %d, %d bits", kind, c, e, w.Many())
		}
	}
}

// R1: of no writer ErrArg is answered, ahead of all else.
func TestWriteOfNone(t *testing.T) {
	for i, c := range byHand {
		if e := Write(nil, c.kind, c.c, c.past, c.next); e != api.ErrArg {
			t.Errorf("%d: %d", i, e)
		}
	}
	for i, c := range refused {
		if e := Write(nil, c.kind, c.c, none, none); e != api.ErrArg {
			t.Errorf("%d: %d", i, e)
		}
	}
}
