package vector

import (
	"math"
	"strconv"
	"strings"
	"testing"

	"clapboard/api"
	"clapboard/bits"
	"clapboard/motion"
)

// behind is what stands, in these tests, behind what is to be read: none of it may be read.
const behind = "1011001110001111"

// noNumber is more bits 0 than stand ahead of any number.
var noNumber = strings.Repeat("0", 40)

// readerOf is a reader whose next bits are those of a text, and there it ends: as many bits as a byte lacks are put ahead, and read.
func readerOf(s string) *bits.Reader {
	ahead := (8 - len(s)%8) % 8
	s = strings.Repeat("1", ahead) + s
	var b []byte
	for i := 0; i < len(s); i += 8 {
		n, _ := strconv.ParseUint(s[i:i+8], 2, 8)
		b = append(b, byte(n))
	}
	r := bits.New(b)
	r.Fixed(ahead)
	return r
}

// checkLeft: the reader stands at these bits, and they are all that is left.
func checkLeft(t *testing.T, name string, r *bits.Reader, left string) {
	t.Helper()
	for i := range len(left) {
		if n := r.Bit(); n != int(left[i]-'0') || r.Lost() {
			t.Fatalf("%s: bit %d of what is left: %d, %v", name, i, n, r.Lost())
		}
	}
	if r.Bit(); !r.Lost() {
		t.Fatalf("%s: there is more left", name)
	}
}

// checkRead: of the bits the vector is read, and nothing behind them.
func checkRead(t *testing.T, s string, guess, want api.Vector) {
	t.Helper()
	r := readerOf(s + behind)
	if v, e := Read(r, guess); v != want || e != api.OK {
		t.Fatalf("%s beside %v: %v, %d, not %v", s, guess, v, e, want)
	}
	checkLeft(t, s, r, behind)
}

// checkNone: the bits have no vector, asked once and again; the reader is as it was.
func checkNone(t *testing.T, s string, guess api.Vector) {
	t.Helper()
	r := readerOf(s)
	for range 2 {
		if v, e := Read(r, guess); v != none || e != api.ErrVector {
			t.Fatalf("%s beside %v: %v, %d", s, guess, v, e)
		}
	}
	checkLeft(t, s, r, s)
}

// P10.3: bits by hand, the chapter's example ahead.
func TestReadByHand(t *testing.T) {
	for _, c := range []struct {
		s           string
		guess, want api.Vector
	}{
		{"00100" + "011", of(1, 0), of(3, -1)},
		{"1" + "1", none, none},
		{"1" + "1", of(31, -31), of(31, -31)},
		{"010" + "1", none, of(1, 0)},
		{"1" + "011", none, of(0, -1)},
		{"0000001111100" + "0000001111101", of(-31, 31), of(31, -31)},
		{signed(-95) + signed(95), of(64, -64), of(-31, 31)},
		{signed(-33) + signed(33), of(64, -64), of(31, -31)},
		{signed(-33) + signed(33), of(65, -65), of(31, -31)},
		{signed(95) + signed(-95), of(math.MinInt, math.MaxInt), of(31, -31)},
		{signed(64) + signed(-64), of(-64, 64), none},
		{signed(64) + signed(-64), of(-1000, 1000), none},
	} {
		checkRead(t, c.s, c.guess, c.want)
	}
}

// P10.3: each difference from -135 to 135 beside each guess about the ends, of X and of Y: the vector, if it may be, and ErrVector, if not.
func TestReadEachDifference(t *testing.T) {
	var read, refused int
	for _, guess := range told {
		for d := -135; d <= 135; d++ {
			n := near64(guess) + d
			if n >= -31 && n <= 31 && d >= -128 && d <= 128 {
				checkRead(t, signed(d)+signed(2), of(guess, 3), of(n, 5))
				checkRead(t, signed(-2)+signed(d), of(3, guess), of(1, n))
				read++
				continue
			}
			checkNone(t, signed(d)+signed(2)+behind, of(guess, 3))
			checkNone(t, signed(-2)+signed(d)+behind, of(3, guess))
			refused++
		}
	}
	if read != 63*len(told) || refused != (271-63)*len(told) {
		t.Errorf("%d, %d", read, refused)
	}
}

// P10.3: differences at and beyond the ends, as far as bits tell them, beside guesses at and beyond their own: none of a vector that may be.
func TestReadFarDifferences(t *testing.T) {
	for _, d := range []int{128, 129, 130, 255, 256, 257, 384, 1 << 16, 1 << 20, 1<<30 - 1, 1 << 30, 1<<30 + 1, 1<<31 - 2, 1<<31 - 1} {
		for _, n := range []int{d, -d} {
			for _, guess := range []int{math.MinInt, -n, -128, -97, -64, -31, 0, 31, 64, 97, 128, math.MaxInt} {
				checkNone(t, signed(n)+signed(0)+behind, of(guess, 0))
				checkNone(t, signed(0)+signed(n)+behind, of(0, guess))
				checkNone(t, signed(n)+signed(n)+behind, of(guess, guess))
			}
		}
	}
}

// P10.3: vectors that are written, and may not be.
func TestReadOfVectorsThatMayNotBe(t *testing.T) {
	guesses := []api.Vector{none, of(31, -31), of(-64, 64), of(math.MaxInt, math.MinInt)}
	for _, n := range mayNot {
		for _, other := range append([]int{-31, 0, 31}, mayNot...) {
			for _, v := range []api.Vector{of(n, other), of(other, n)} {
				for _, guess := range guesses {
					checkNone(t, model(v, guess)+behind, guess)
				}
			}
		}
	}
}

// P10.3: a reader that is lost ahead, though a vector is there; one without bytes; one made by hand. It stays lost.
func TestReadLostAhead(t *testing.T) {
	for i, lose := range []func(r *bits.Reader){
		func(r *bits.Reader) { r.Fixed(33) },
		func(r *bits.Reader) { r.Whole(-1) },
		func(r *bits.Reader) { r.Signed(-1) },
	} {
		r := readerOf(whole(0) + model(of(1, 2), none) + behind)
		lose(r)
		for _, guess := range []api.Vector{none, of(4, 5), of(64, 64)} {
			if v, e := Read(r, guess); v != none || e != api.ErrVector || !r.Lost() {
				t.Errorf("%d: %v, %d, %v", i, v, e, r.Lost())
			}
		}
	}
	checkNone(t, "", none)
	checkNone(t, "", of(7, 7))
	if v, e := Read(&bits.Reader{}, of(1, 1)); v != none || e != api.ErrVector {
		t.Errorf("%v, %d", v, e)
	}
}

// P10.3: bits that end too early, at each of a vector's bits, in the first number and in the second one, though what is left would be a vector that may be.
func TestReadEndsEarly(t *testing.T) {
	for _, v := range []api.Vector{none, of(3, -1), of(-31, 31), of(31, 0), of(0, -31)} {
		for _, guess := range []api.Vector{none, of(1, 0), of(31, -31), of(-64, 64)} {
			s := model(v, guess)
			for end := range len(s) {
				checkNone(t, s[:end], guess)
			}
			checkRead(t, s, guess, v)
		}
	}
}

// P10.3: bits that are no number, in place of the first one, and of the second one.
func TestReadLostInEachNumber(t *testing.T) {
	for _, guess := range []api.Vector{none, of(5, -6), of(-31, 31)} {
		checkNone(t, noNumber+behind, guess)
		for d := -3; d <= 3; d++ {
			checkNone(t, signed(d)+noNumber+behind, guess)
		}
	}
}

// R1: of none ErrArg is answered, ahead of all else.
func TestReadOfNone(t *testing.T) {
	for _, guess := range []api.Vector{none, of(1, 2), of(64, -65), of(math.MinInt, math.MaxInt)} {
		if v, e := Read(nil, guess); v != none || e != api.ErrArg {
			t.Errorf("%v: %v, %d", guess, v, e)
		}
	}
}

// R3: bits that have no vector beside one guess are read beside another one, or as other numbers, from where they begin.
func TestReadGoesOnBehindAnError(t *testing.T) {
	r := readerOf(signed(20) + signed(-20) + signed(129) + signed(1) + signed(2) + signed(3))
	for _, guess := range []api.Vector{of(12, 0), of(0, -12), of(31, 31), of(-64, -64)} {
		if v, e := Read(r, guess); v != none || e != api.ErrVector {
			t.Errorf("%v: %v, %d", guess, v, e)
		}
	}
	if v, e := Read(r, of(11, -11)); v != of(31, -31) || e != api.OK {
		t.Errorf("%v, %d", v, e)
	}
	if v, e := Read(r, none); v != none || e != api.ErrVector || r.Lost() {
		t.Errorf("%v, %d, %v", v, e, r.Lost())
	}
	if n := r.Signed(129); n != 129 {
		t.Errorf("%d", n)
	}
	if v, e := Read(r, none); v != of(1, 2) || e != api.OK {
		t.Errorf("%v, %d", v, e)
	}
	if v, e := Read(r, none); v != none || e != api.ErrVector || r.Lost() {
		t.Errorf("%v, %d, %v", v, e, r.Lost())
	}
	checkLeft(t, "the last one", r, signed(3))
}

// round writes a vector, and reads it, by one guess.
func round(t *testing.T, v, guess api.Vector) {
	t.Helper()
	w := &bits.Writer{}
	Write(w, v, guess)
	w.End()
	r := bits.New(w.Bytes())
	if got, e := Read(r, guess); got != v || e != api.OK || r.Done() != api.OK {
		t.Fatalf("%v beside %v: %v, %d, %d", v, guess, got, e, r.Done())
	}
}

// P10.4: each vector that may be is read as it was written, by guesses that may be, and by others, at, within and beyond the ends.
func TestRoundEach(t *testing.T) {
	guesses := []api.Vector{none, of(31, 31), of(-31, 31), of(64, -64), of(65, -65), of(-40, 1000), of(math.MinInt, math.MaxInt)}
	for x := -31; x <= 31; x++ {
		for y := -31; y <= 31; y++ {
			for _, guess := range guesses {
				round(t, of(x, y), guess)
			}
		}
		for _, n := range told {
			for _, other := range told {
				round(t, of(x, -x), of(n, other))
			}
		}
	}
}

// P10.4: vectors that are written one behind the other, with other numbers between, each beside a guess of its own, are read as they were; those that may not be are none.
func TestRoundOneBehindTheOther(t *testing.T) {
	n := numbers(220)
	for range 300 {
		w := &bits.Writer{}
		var vectors, guesses []api.Vector
		for range n.below(30) {
			v, guess := n.vector(), n.vector()
			if n.below(3) == 0 {
				guess = of(told[n.below(len(told))], told[n.below(len(told))])
			}
			w.Whole(len(vectors))
			Write(w, v, guess)
			vectors, guesses = append(vectors, v), append(guesses, guess)
		}
		w.End()
		r := bits.New(w.Bytes())
		for i, v := range vectors {
			if k := r.Whole(30); k != i {
				t.Fatalf("ahead of vector %d: %d", i, k)
			}
			if got, e := Read(r, guesses[i]); got != v || e != api.OK {
				t.Fatalf("vector %d: %v, %d, not %v", i, got, e, v)
			}
		}
		if r.Done() != api.OK {
			t.Fatalf("Done: %d", r.Done())
		}
	}
}

// P10.4: a whole field, written block by block beside what is guessed there, is read by a field that is laid from what was read.
func TestRoundOfFields(t *testing.T) {
	n := numbers(221)
	for range 60 {
		a, p := fresh(t, 1+n.below(16), 1+n.below(16))
		w := &bits.Writer{}
		for y, row := range p {
			for x := range row {
				v := n.vector()
				if n.below(3) == 0 {
					v = a.Guess(x, y)
				}
				Write(w, v, a.Guess(x, y))
				set(t, a, p, x, y, v)
			}
		}
		w.End()
		b, q := fresh(t, len(p[0]), len(p))
		r := bits.New(w.Bytes())
		for y, row := range q {
			for x := range row {
				v, e := Read(r, b.Guess(x, y))
				if v != p[y][x] || e != api.OK || motion.Check(v) != api.OK {
					t.Fatalf("%d, %d: %v, %d, not %v", x, y, v, e, p[y][x])
				}
				set(t, b, q, x, y, v)
			}
		}
		if r.Done() != api.OK {
			t.Fatalf("Done: %d", r.Done())
		}
		guessed(t, "as it was read", b, p)
	}
}
