package wave

import (
	"math"
	"testing"

	"clapboard/api"
)

// signs are the waves, as the chapter writes them: told apart from the program's own table.
var signs = [4]string{"++++", "++--", "+--+", "+-+-"}

// most is how far from 0 a number may be ahead of all.
const most = 1 << 20

// sign is the k-th number of the u-th wave.
func sign(u, k int) int {
	if signs[u][k] == '+' {
		return 1
	}
	return -1
}

// all is a block of one number everywhere.
func all(n int) api.Block {
	var b api.Block
	for i := range b {
		b[i] = n
	}
	return b
}

// alone is a block of one number at one place.
func alone(at, n int) api.Block {
	var b api.Block
	b[at] = n
	return b
}

// near is a number, clamped.
func near(n int) int {
	switch {
	case n < -most:
		return -most
	case n > most:
		return most
	}
	return n
}

// slow are the sums of a block as the chapter says them: all sixteen products of each.
func slow(b api.Block) api.Block {
	var f api.Block
	for u := range 4 {
		for v := range 4 {
			for i := range 4 {
				for k := range 4 {
					f[4*u+v] += near(b[4*i+k]) * sign(u, i) * sign(v, k)
				}
			}
		}
	}
	return f
}

// slowBack is Back as the chapter says it; Floor goes down below 0 too.
func slowBack(b api.Block) api.Block {
	f := slow(b)
	for i, n := range f {
		f[i] = int(math.Floor(float64(n+8) / 16))
	}
	return f
}

// numbers gives the same numbers in each run, by a rule of its own.
type numbers uint64

func (s *numbers) next() uint64 {
	*s = *s*6364136223846793005 + 1442695040888963407
	n := uint64(*s)
	return n ^ n>>29
}

// within is a number from -n to n.
func (s *numbers) within(n int) int { return int(s.next()>>1%uint64(2*n+1)) - n }

// block is one of numbers from -n to n, some of them at the ends.
func (s *numbers) block(n int) api.Block {
	var b api.Block
	for i := range b {
		b[i] = max(-n, min(s.within(n+n/4), n))
	}
	return b
}

// sized is a block of numbers of any length, of either sign.
func (s *numbers) sized() api.Block {
	var b api.Block
	for i := range b {
		b[i] = int(s.next()) >> (s.next() % 64)
	}
	return b
}

// check holds both sums of a block to the slow ones.
func check(t *testing.T, b api.Block) {
	t.Helper()
	if f, want := Forward(b), slow(b); f != want {
		t.Errorf("Forward(%v): %v, want %v", b, f, want)
	}
	if f, want := Back(b), slowBack(b); f != want {
		t.Errorf("Back(%v): %v, want %v", b, f, want)
	}
}

// P4.1: the chapter's examples: sixteen 3, there and back.
func TestExamples(t *testing.T) {
	f := Forward(all(3))
	if f != (api.Block{48}) {
		t.Errorf("Forward of sixteen 3: %v", f)
	}
	if b := Back(api.Block{48}); b != all(3) {
		t.Errorf("Back of 48: %v", b)
	}
}

// P4.1: blocks that were worked out by hand.
func TestByHand(t *testing.T) {
	rows := api.Block{1, 2, 3, 4, 5, 6, 7, 8, 9, 10, 11, 12, 13, 14, 15, 16}
	sums := api.Block{136, -16, 0, -8, -64, 0, 0, 0, 0, 0, 0, 0, -32, 0, 0, 0}
	if f := Forward(rows); f != sums {
		t.Errorf("Forward of 1 to 16: %v", f)
	}
	if b := Back(sums); b != rows {
		t.Errorf("Back to 1 to 16: %v", b)
	}
	if f := Forward(api.Block{7, 7, 7, 7, 0, 0, 0, 0, 0, 0, 0, 0, 0, 0, 0, 0}); f != (api.Block{28, 0, 0, 0, 28, 0, 0, 0, 28, 0, 0, 0, 28, 0, 0, 0}) {
		t.Errorf("Forward of a row: %v", f)
	}
	if f := Forward(api.Block{7, 0, 0, 0, 7, 0, 0, 0, 7, 0, 0, 0, 7, 0, 0, 0}); f != (api.Block{28, 28, 28, 28}) {
		t.Errorf("Forward of a column: %v", f)
	}
}

// P4.1: a block of one number everywhere has one coefficient, sixteen times as great.
func TestOneNumberEverywhere(t *testing.T) {
	for _, n := range []int{0, 1, -1, 3, 255, -255, 1 << 15, -1 << 15, most - 1, 1 - most, most, -most} {
		if f := Forward(all(n)); f != (api.Block{16 * n}) {
			t.Errorf("Forward of sixteen %d: %v", n, f)
		}
		if b := Back(all(n)); b != slowBack(all(n)) || b[0] != n || b[1] != 0 || b[15] != 0 {
			t.Errorf("Back of sixteen %d: %v", n, b)
		}
	}
}

// P4.1, P4.2: a block without numbers other than 0 gives and takes nothing.
func TestNothing(t *testing.T) {
	var none api.Block
	if Forward(none) != none || Back(none) != none || Less(none, none) != none || More(none, none) != none {
		t.Error("a block of 0 makes others")
	}
	b := api.Block{1, -2, 3, 0, most, -most}
	if Less(b, none) != b || More(b, none) != b || More(none, b) != b || Less(b, b) != none {
		t.Error("a block of 0 changes another one")
	}
}

// P4.1: a number alone is, in each coefficient, of the sign of both waves there: at all sixteen places.
func TestEachPlaceForward(t *testing.T) {
	for at := range 16 {
		for _, n := range []int{1, -1, 7, most, -most} {
			f := Forward(alone(at, n))
			for to := range 16 {
				if want := n * sign(to/4, at/4) * sign(to%4, at%4); f[to] != want {
					t.Errorf("%d alone at %d: %d at %d, want %d", n, at, f[to], to, want)
				}
			}
		}
	}
}

// P4.1: a coefficient alone is its two waves, a sixteenth as high: at all sixteen places.
func TestEachPlaceBack(t *testing.T) {
	for at := range 16 {
		for _, n := range []int{1, -1, 7, 1 << 16, -1 << 16} {
			b := Back(alone(at, 16*n))
			for to := range 16 {
				if want := n * sign(at/4, to/4) * sign(at%4, to%4); b[to] != want {
					t.Errorf("%d alone at %d: %d at %d, want %d", 16*n, at, b[to], to, want)
				}
			}
		}
	}
}

// P4.1: sums of Back just below, at and above a half, below 0 and above 0; a half goes up.
func TestHalves(t *testing.T) {
	for _, c := range []struct{ sum, want int }{
		{0, 0}, {1, 0}, {-1, 0},
		{7, 0}, {8, 1}, {9, 1},
		{-7, 0}, {-8, 0}, {-9, -1},
		{15, 1}, {16, 1}, {17, 1}, {-15, -1}, {-16, -1}, {-17, -1},
		{23, 1}, {24, 2}, {25, 2},
		{-23, -1}, {-24, -1}, {-25, -2},
		{most - 9, 65535}, {most - 8, 65536}, {most - 7, 65536}, {most, 65536},
		{9 - most, -65535}, {8 - most, -65535}, {7 - most, -65536}, {-most, -65536},
	} {
		for at := range 16 {
			b, against := Back(alone(at, c.sum)), slowBack(alone(at, c.sum))
			if b[0] != c.want || b != against {
				t.Errorf("Back of %d alone at %d: %v, want %d ahead", c.sum, at, b, c.want)
			}
		}
	}
}

// P4.1: halves of sums that are made of several coefficients, not of one.
func TestHalvesOfManySums(t *testing.T) {
	for n := -100; n <= 100; n++ {
		b := api.Block{n, 3, -5, 1, 2, 0, 7, -1, 4, -4, 6, -6, 9, 1, 1, -2}
		check(t, b)
		if got, want := Back(b)[0], int(math.Floor(float64(n+16+8)/16)); got != want {
			t.Errorf("Back of %d and 16: %d, want %d", n, got, want)
		}
	}
}

// P4.1: sums are as the chapter says them, of blocks of all kinds.
func TestAgainstSlowSums(t *testing.T) {
	s := numbers(1)
	for range 3000 {
		check(t, s.block(1+int(s.next()%300)))
		check(t, s.block(most))
		check(t, s.sized())
	}
}

// P4.1: what Forward and Back answer is not clamped itself.
func TestSumsAreNotClamped(t *testing.T) {
	if f := Forward(all(most)); f != (api.Block{16 * most}) {
		t.Errorf("Forward of sixteen 2^20: %v", f)
	}
	if f := Forward(all(-most)); f != (api.Block{-16 * most}) {
		t.Errorf("Forward of sixteen -2^20: %v", f)
	}
	for at := range 16 {
		top := Back(Forward(alone(at, most)))
		if top[at] != most {
			t.Errorf("2^20 at %d, there and back: %d", at, top[at])
		}
	}
}
