package vector

import (
	"math"
	"strconv"
	"strings"
	"testing"

	"clapboard/api"
	"clapboard/bits"
)

// told are numbers about those by which a vector is clamped, and about those that it may have, both ends of an int among them.
var told = append([]int{-130, -129, -128, -127, -97, -96, -95, -66, -65, -64, -63, -62, -33, -32, -31, -30, -2, -1, 0, 1, 2, 30, 31, 32, 33, 62, 63, 64, 65, 66, 95, 96, 97, 127, 128, 129, 130}, far...)

// near64 is a number, clamped to -64 to 64.
func near64(n int) int {
	switch {
	case n < -64:
		return -64
	case n > 64:
		return 64
	}
	return n
}

// whole are the bits of Whole, by chapter 1's words.
func whole(n int) string {
	m := strconv.FormatInt(int64(n)+1, 2)
	return strings.Repeat("0", len(m)-1) + m
}

// signed are those of Signed.
func signed(n int) string {
	if n > 0 {
		return whole(2*n - 1)
	}
	return whole(-2 * n)
}

// model are the bits of a vector beside a guess, by the chapter's words.
func model(v, guess api.Vector) string {
	return signed(near64(v.X)-near64(guess.X)) + signed(near64(v.Y)-near64(guess.Y))
}

// text are the bits of a writer.
func text(w *bits.Writer) string {
	s := ""
	for _, b := range w.Bytes() {
		n := strconv.FormatInt(int64(b), 2)
		s += strings.Repeat("0", 8-len(n)) + n
	}
	return s[:w.Many()]
}

// checkWrite: what Write adds, and that it leaves what was there.
func checkWrite(t *testing.T, v, guess api.Vector) {
	t.Helper()
	const ahead = "10110"
	w := &bits.Writer{}
	w.Fixed(0b10110, len(ahead))
	Write(w, v, guess)
	if got, want := text(w), ahead+model(v, guess); got != want {
		t.Fatalf("%v beside %v: %s, not %s", v, guess, got, want)
	}
}

// P10.3: bits by hand, the chapter's example ahead.
func TestWriteByHand(t *testing.T) {
	for _, c := range []struct {
		v, guess api.Vector
		want     string
	}{
		{of(3, -1), of(1, 0), "00100" + "011"},
		{none, none, "1" + "1"},
		{of(7, -9), of(7, -9), "1" + "1"},
		{of(1, 0), none, "010" + "1"},
		{of(0, 1), none, "1" + "010"},
		{none, of(1, 0), "011" + "1"},
		{none, of(0, 1), "1" + "011"},
		{of(31, -31), of(-31, 31), "0000001111100" + "0000001111101"},
		{of(64, -64), none, "00000001" + "0000000" + "00000001" + "0000001"},
		{of(65, -65), none, "00000001" + "0000000" + "00000001" + "0000001"},
		{of(math.MaxInt, math.MinInt), none, "00000001" + "0000000" + "00000001" + "0000001"},
		{of(64, -64), of(-64, 64), "000000001" + "00000000" + "000000001" + "00000001"},
		{of(math.MaxInt, math.MinInt), of(math.MinInt, math.MaxInt), "000000001" + "00000000" + "000000001" + "00000001"},
		{of(math.MaxInt, math.MinInt), of(65, -65), "1" + "1"},
		{of(math.MinInt, math.MinInt), of(-64, -64), "1" + "1"},
	} {
		w := &bits.Writer{}
		Write(w, c.v, c.guess)
		if got := text(w); got != c.want {
			t.Errorf("%v beside %v: %s, not %s", c.v, c.guess, got, c.want)
		}
	}
}

// P10.3: numbers at, and beyond, the ends, of a vector and of a guess, one way beside each of the other's.
func TestWriteEnds(t *testing.T) {
	for _, a := range told {
		for _, b := range told {
			checkWrite(t, of(a, 5), of(b, -7))
			checkWrite(t, of(5, a), of(-7, b))
			checkWrite(t, of(a, b), of(b, a))
			checkWrite(t, of(a, b), none)
			checkWrite(t, none, of(a, b))
		}
	}
}

// P10.3: each number that a vector may have, one way, beside each number of a guess.
func TestWriteEach(t *testing.T) {
	for a := -70; a <= 70; a++ {
		for b := -70; b <= 70; b++ {
			checkWrite(t, of(a, b), of(b, 3))
			checkWrite(t, of(b, a), of(3, b))
		}
	}
}

// P10.3, R1: of none nothing is written.
func TestWriteOfNone(t *testing.T) {
	for _, v := range []api.Vector{none, of(1, 2), of(32, 99), of(math.MinInt, math.MaxInt)} {
		Write(nil, v, none)
		Write(nil, none, v)
	}
}
