package block

import (
	"math"
	"strconv"
	"strings"
	"testing"

	"clapboard/api"
	"clapboard/bits"
)

// behind is what stands, in these tests, behind what is to be read: none of it may be read.
const behind = "1011001110001111"

// noNumber is more bits 0 than stand ahead of any number.
var noNumber = strings.Repeat("0", 40)

// readerOf is a reader whose next bits are those of a text, and there it ends: as many bits as a byte lacks are put ahead, and read.
func readerOf(s string) *bits.Reader {
	ahead := (8 - len(s)%8) % 8
	s = strings.Repeat("1", ahead) + s
	var b []byte
	for i := 0; i < len(s); i += 8 {
		n, _ := strconv.ParseUint(s[i:i+8], 2, 8)
		b = append(b, byte(n))
	}
	r := bits.New(b)
	r.Fixed(ahead)
	return r
}

// checkLeft: the reader stands at these bits, and they are all that is left.
func checkLeft(t *testing.T, name string, r *bits.Reader, left string) {
	t.Helper()
	for i := range len(left) {
		if n := r.Bit(); n != int(left[i]-'0') || r.Lost() {
			t.Fatalf("%s: bit %d of what is left: %d, %v", name, i, n, r.Lost())
		}
	}
	if r.Bit(); !r.Lost() {
		t.Fatalf("%s: there is more left", name)
	}
}

// checkRead: of the bits the choice is read, and nothing behind them.
func checkRead(t *testing.T, s string, kind int, past, next api.Vector, want api.Choice) {
	t.Helper()
	r := readerOf(s + behind)
	if c, e := Read(r, kind, past, next); c != want || e != api.OK {
		t.Fatalf("%s, kind %d, beside %v, %v: %+v, %d, not %+v", s, kind, past, next, c, e, want)
	}
	checkLeft(t, s, r, behind)
}

// checkNone: the bits have no choice, asked once and again; the reader is as it was.
func checkNone(t *testing.T, s string, kind int, past, next api.Vector, want api.Errno) {
	t.Helper()
	r := readerOf(s)
	for range 2 {
		if c, e := Read(r, kind, past, next); c != (api.Choice{}) || e != want || r.Lost() {
			t.Fatalf("%s, kind %d, beside %v, %v: %+v, %d, %v, not %d", s, kind, past, next, c, e, r.Lost(), want)
		}
	}
	checkLeft(t, s, r, s)
}

// P12.2: bits by hand.
func TestReadByHand(t *testing.T) {
	for _, c := range byHand {
		checkRead(t, c.want, c.kind, c.past, c.next, c.c)
	}
}

// P12.2: the same bits beside other guesses are another choice.
func TestReadBesideGuesses(t *testing.T) {
	const s = "00111" + "00100" + "011" + "1" + "010" + "1"
	for _, past := range []api.Vector{none, of(1, 0), of(-31, 31), of(29, -30)} {
		for _, next := range []api.Vector{none, of(0, 1), of(-31, 30), of(31, -31)} {
			want := api.Choice{Mode: 6, Past: of(past.X+2, past.Y-1), Next: of(next.X, next.Y+1)}
			checkRead(t, s, 2, past, next, want)
		}
	}
	checkNone(t, s+behind, 2, of(30, 0), none, api.ErrVector)
	checkNone(t, s+behind, 2, none, of(0, 31), api.ErrVector)
	checkNone(t, s+behind, 2, of(math.MinInt, 0), of(0, math.MaxInt), api.ErrVector)
}

// P12.2: bytes of nothing, and readers that are made by hand, have no choice, of any kind.
func TestReadOfNothing(t *testing.T) {
	for _, kind := range kinds {
		checkNone(t, "", kind, none, none, api.ErrBlock)
		for _, r := range []*bits.Reader{bits.New(nil), bits.New([]byte{}), {}} {
			if c, e := Read(r, kind, of(1, 1), none); c != (api.Choice{}) || e != api.ErrBlock || r.Lost() {
				t.Errorf("%d: %+v, %d", kind, c, e)
			}
		}
	}
}

// P12.2: a mode alone: what is lacking behind it tells the error.
func TestReadModeAlone(t *testing.T) {
	for kind := -1; kind <= 3; kind++ {
		for mode := range 9 {
			want := api.ErrBlock
			switch {
			case mode > most(kind):
			case mode > 3:
				want = api.ErrVector
			default:
				want = api.ErrScan
			}
			checkNone(t, whole(mode), kind, none, none, want)
			checkNone(t, whole(mode)+noNumber, kind, none, none, want)
		}
	}
}

// P12.2: each mode's number beside each kind, far beyond all modes too, with a choice's other bits behind it: ErrBlock, where the kind has not the mode, or is none.
func TestReadEachModeOfEachKind(t *testing.T) {
	numbers := []int{0, 1, 2, 3, 4, 5, 6, 7, 8, 9, 10, 15, 16, 100, 255, 256, 257, 260, 1 << 16, 1<<31 - 2, 1<<31 - 1, 1<<32 - 2}
	for _, kind := range kinds {
		for _, n := range numbers {
			s := whole(n) + "1" + "1" + "1" + "1" + "1" + behind
			if n > most(kind) {
				checkNone(t, s, kind, none, none, api.ErrBlock)
				continue
			}
			if c, e := Read(readerOf(s), kind, none, none); c != (api.Choice{Mode: n}) || e != api.OK {
				t.Errorf("%d, %d: %+v, %d", kind, n, c, e)
			}
		}
		checkNone(t, noNumber+behind, kind, none, none, api.ErrBlock)
	}
}

// P12.2, R3: choices that are cut short at each bit: the error is that of the part that is cut, and the reader is as it was.
func TestReadEndsEarly(t *testing.T) {
	n := numbers(320)
	for kind := range 3 {
		for mode := range most(kind) + 1 {
			for range 12 {
				c, past, next := n.choice(mode), n.vector(), n.vector()
				end := 0
				for i, part := range parts(c, past, next) {
					for range part {
						want := api.ErrVector
						switch {
						case i == 0:
							want = api.ErrBlock
						case i == len(parts(c, past, next))-1:
							want = api.ErrScan
						}
						checkNone(t, model(c, past, next)[:end], kind, past, next, want)
						end++
					}
				}
				checkRead(t, model(c, past, next), kind, past, next, c)
				if end != len(model(c, past, next)) {
					t.Fatalf("%d bits", end)
				}
			}
		}
	}
}

// P12.2, R3: bits that are no number, in each part.
func TestReadLostInEachPart(t *testing.T) {
	for _, c := range []struct {
		kind int
		s    string
		want api.Errno
	}{
		{0, "", api.ErrBlock},
		{1, "00101", api.ErrVector},
		{1, "00101" + "010", api.ErrVector},
		{1, "00101" + "010" + "011", api.ErrScan},
		{2, "00110", api.ErrVector},
		{2, "00110" + "1", api.ErrVector},
		{2, "00110" + "1" + "1", api.ErrScan},
		{2, "00111" + "1" + "1", api.ErrVector},
		{2, "00111" + "1" + "1" + "1", api.ErrVector},
		{2, "00111" + "1" + "1" + "1" + "1", api.ErrScan},
		{0, "1" + "010", api.ErrScan},
		{0, "1" + "010" + "1", api.ErrScan},
		{0, "1" + "011" + "1" + "010", api.ErrScan},
	} {
		checkNone(t, c.s+noNumber+behind, c.kind, none, none, c.want)
		checkNone(t, c.s+noNumber+behind, 3, none, none, api.ErrBlock)
		checkNone(t, c.s, c.kind, none, none, c.want)
	}
}

// P12.2: vectors that may not be: the past one, the next one, and both.
func TestReadVectorsThatMayNotBe(t *testing.T) {
	for _, n := range []int{-128, -64, -33, -32, 32, 33, 64, 128, 129, 1 << 16} {
		for _, v := range []string{signed(n) + signed(0), signed(0) + signed(n), signed(n) + signed(n)} {
			checkNone(t, whole(4)+v+"1"+behind, 1, none, none, api.ErrVector)
			checkNone(t, whole(5)+v+"1"+behind, 2, none, none, api.ErrVector)
			checkNone(t, whole(6)+v+"1"+"1"+"1"+behind, 2, none, none, api.ErrVector)
			checkNone(t, whole(6)+"1"+"1"+v+"1"+behind, 2, none, none, api.ErrVector)
			checkNone(t, whole(6)+v+v+"1"+behind, 2, none, none, api.ErrVector)
		}
	}
}

// noLevels are bits that are no levels.
var noLevels = []string{
	whole(17) + strings.Repeat("1"+signed(1), 17),
	whole(1<<31 - 1),
	whole(1) + whole(16) + signed(1),
	whole(2) + whole(8) + signed(1) + whole(7) + signed(1),
	whole(1) + whole(0) + signed(0),
	whole(1) + whole(0) + signed(1<<20+1),
	whole(1) + whole(15) + signed(-1<<20-1),
	whole(2) + whole(0) + signed(5) + whole(0) + signed(0),
}

// P12.2, R3: levels that are none, behind each mode; the reader is as it was, though levels were read.
func TestReadLevelsThatAreNone(t *testing.T) {
	for _, s := range noLevels {
		for kind := range 3 {
			for mode := range most(kind) + 1 {
				ahead := strings.Join(parts(api.Choice{Mode: mode}, none, none), "")
				checkNone(t, ahead[:len(ahead)-1]+s+behind, kind, of(4, -4), none, api.ErrScan)
			}
		}
	}
}

// P12.2, R2: of several errors the one that comes first in the bits is told, that of a kind that is none ahead of all.
func TestReadWhichError(t *testing.T) {
	const noVector = "0000001000000" + "1"
	for i, c := range []struct {
		kind int
		s    string
		want api.Errno
	}{
		{1, whole(4) + noVector + noLevels[0], api.ErrVector},
		{2, whole(6) + "1" + "1" + noVector + noLevels[4], api.ErrVector},
		{2, whole(6) + noVector + noNumber, api.ErrVector},
		{0, whole(4) + noVector + noLevels[0], api.ErrBlock},
		{1, whole(5) + noVector + noLevels[0], api.ErrBlock},
		{2, whole(7) + noVector + noLevels[0], api.ErrBlock},
		{3, whole(4) + noVector + noLevels[0], api.ErrBlock},
		{-1, whole(0) + noLevels[0], api.ErrBlock},
		{-1, noNumber, api.ErrBlock},
		{math.MinInt, whole(0) + "1", api.ErrBlock},
		{math.MaxInt, whole(6) + "11111", api.ErrBlock},
	} {
		t.Run(strconv.Itoa(i), func(t *testing.T) { checkNone(t, c.s+behind, c.kind, none, none, c.want) })
	}
}

// P12.2: a reader that is lost ahead, though a choice is there, of each kind; it stays lost.
func TestReadLostAhead(t *testing.T) {
	for i, lose := range []func(r *bits.Reader){
		func(r *bits.Reader) { r.Fixed(33) },
		func(r *bits.Reader) { r.Whole(-1) },
		func(r *bits.Reader) { r.Signed(-1) },
	} {
		r := readerOf(whole(0) + "1" + "1" + "1" + behind)
		lose(r)
		for _, kind := range kinds {
			if c, e := Read(r, kind, none, of(1, 2)); c != (api.Choice{}) || e != api.ErrBlock || !r.Lost() {
				t.Errorf("%d, kind %d: %+v, %d, %v", i, kind, c, e, r.Lost())
			}
		}
	}
}

// R1: of no reader ErrArg is answered, ahead of all else.
func TestReadOfNone(t *testing.T) {
	for _, kind := range kinds {
		for _, v := range guesses {
			if c, e := Read(nil, kind, v, none); c != (api.Choice{}) || e != api.ErrArg {
				t.Errorf("%d, %v: %+v, %d", kind, v, c, e)
			}
		}
	}
}

// R3: bits that have no choice of one kind, or beside one guess, are read as one of another kind, or beside another guess, from where they begin.
func TestReadGoesOnBehindAnError(t *testing.T) {
	first := api.Choice{Mode: 6, Past: of(20, -20), Next: of(-31, 31), Levels: api.Block{9, 0, -3}}
	second := api.Choice{Mode: 4, Past: of(-5, 6)}
	r := readerOf(model(first, none, none) + model(second, of(9, 9), none) + behind)
	for kind := -1; kind <= 1; kind++ {
		if c, e := Read(r, kind, none, none); c != (api.Choice{}) || e != api.ErrBlock {
			t.Errorf("%d: %+v, %d", kind, c, e)
		}
	}
	for _, v := range [][2]api.Vector{{of(12, 0), none}, {none, of(0, 1)}, {of(-64, 0), of(64, 0)}} {
		if c, e := Read(r, 2, v[0], v[1]); c != (api.Choice{}) || e != api.ErrVector {
			t.Errorf("%v: %+v, %d", v, c, e)
		}
	}
	if c, e := Read(r, 2, none, none); c != first || e != api.OK {
		t.Errorf("%+v, %d", c, e)
	}
	if c, e := Read(r, 0, of(9, 9), none); c != (api.Choice{}) || e != api.ErrBlock {
		t.Errorf("%+v, %d", c, e)
	}
	if c, e := Read(r, 1, of(9, 9), none); c != second || e != api.OK {
		t.Errorf("%+v, %d", c, e)
	}
	checkLeft(t, "both", r, behind)
}

// P12.2: any bits, of each kind: a choice that may be, whose bits they are, or an error, and the reader as it was.
func TestReadAnyBits(t *testing.T) {
	n := numbers(321)
	got := map[api.Errno]int{}
	for range 40000 {
		s := ""
		for range 8 + n.below(120) {
			s += strconv.Itoa(max(n.below(3)-1, 0))
			if n.below(3) == 0 {
				s += "1"
			}
		}
		kind, past, next := n.below(3), n.vector(), n.vector()
		c, e := Read(readerOf(s), kind, past, next)
		got[e]++
		if e != api.OK {
			checkNone(t, s, kind, past, next, e)
			continue
		}
		if want := model(c, past, next); plain(kind, c) != api.OK || !strings.HasPrefix(s, want) {
			t.Fatalf("%s, kind %d: %+v", s, kind, c)
		}
		r := readerOf(s)
		Read(r, kind, past, next)
		checkLeft(t, s, r, s[len(model(c, past, next)):])
	}
	if len(got) != 4 || min(got[api.OK], got[api.ErrBlock], got[api.ErrVector], got[api.ErrScan]) < 100 {
		t.Errorf("%v", got)
	}
}

// round writes a choice, and reads it, beside the same guesses.
func round(t *testing.T, kind int, c api.Choice, past, next api.Vector) {
	t.Helper()
	w := &bits.Writer{}
	if e := Write(w, kind, c, past, next); e != api.OK {
		t.Fatalf("kind %d, %+v: %d", kind, c, e)
	}
	w.End()
	r := bits.New(w.Bytes())
	if got, e := Read(r, kind, past, next); got != c || e != api.OK || r.Done() != api.OK {
		t.Fatalf("kind %d, %+v beside %v, %v: %+v, %d, %d", kind, c, past, next, got, e, r.Done())
	}
}

// P12.4: each mode of each kind, beside each two guesses; vectors and levels at the ends.
func TestRoundEach(t *testing.T) {
	n := numbers(322)
	for kind := range 3 {
		for mode := range most(kind) + 1 {
			for _, past := range guesses {
				for _, next := range guesses {
					for range 10 {
						round(t, kind, n.choice(mode), past, next)
					}
				}
			}
			for at := range 16 {
				for _, level := range []int{-1 << 20, -1<<20 + 1, 1<<20 - 1, 1 << 20} {
					c := n.choice(mode)
					c.Levels[at] = level
					round(t, kind, c, n.vector(), n.vector())
				}
			}
		}
	}
	for x := -31; x <= 31; x++ {
		for y := -31; y <= 31; y++ {
			round(t, 1, api.Choice{Mode: 4, Past: of(x, y)}, of(y, x), none)
			round(t, 2, api.Choice{Mode: 5, Next: of(x, y)}, none, of(-x, 31))
			round(t, 2, api.Choice{Mode: 6, Past: of(x, y), Next: of(y, -x)}, of(31, -31), of(math.MaxInt, math.MinInt))
		}
	}
}

// P12.4: choices that are written one behind the other, with other numbers between, and such as may not be refused there, are read as they were.
func TestRoundOneBehindTheOther(t *testing.T) {
	n := numbers(323)
	for range 300 {
		w := &bits.Writer{}
		kind := n.below(3)
		var choices []api.Choice
		var beside [][2]api.Vector
		for i := range n.below(30) {
			c := n.choice(n.below(most(kind) + 1))
			g := [2]api.Vector{n.vector(), guesses[n.below(len(guesses))]}
			w.Whole(i)
			if e := Write(w, 3, c, g[0], g[1]); e != api.ErrBlock {
				t.Fatalf("%+v: %d", c, e)
			}
			if e := Write(w, kind, c, g[0], g[1]); e != api.OK {
				t.Fatalf("%+v: %d", c, e)
			}
			choices, beside = append(choices, c), append(beside, g)
		}
		w.End()
		r := bits.New(w.Bytes())
		for i, c := range choices {
			if k := r.Whole(30); k != i {
				t.Fatalf("ahead of choice %d: %d", i, k)
			}
			if got, e := Read(r, kind, beside[i][0], beside[i][1]); got != c || e != api.OK {
				t.Fatalf("choice %d: %+v, %d, not %+v", i, got, e, c)
			}
		}
		if r.Done() != api.OK {
			t.Fatalf("Done: %d", r.Done())
		}
	}
}
