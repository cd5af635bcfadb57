package wave

import (
	"testing"

	"clapboard/api"
)

// end is how far from 0 numbers may be that come back as they were.
const end = 1 << 15

// comesBack holds a block to what Back of Forward makes of it.
func comesBack(t *testing.T, b api.Block) {
	t.Helper()
	if x := Back(Forward(b)); x != b {
		t.Fatalf("%v came back as %v", b, x)
	}
}

// patterned is a block of n and -n, by the bits of a pattern.
func patterned(pattern, n int) api.Block {
	b := all(n)
	for i := range b {
		if pattern>>i&1 == 1 {
			b[i] = -n
		}
	}
	return b
}

// P4.3: Back of Forward is the block: of both ends, in all 65536 ways.
func TestBackOfForwardAtTheEnds(t *testing.T) {
	for pattern := range 1 << 16 {
		comesBack(t, patterned(pattern, end))
	}
}

// P4.3: Back of Forward is the block: each number from end to end, alone, and everywhere, and beside the ends.
func TestBackOfForwardEachNumber(t *testing.T) {
	for n := -end; n <= end; n++ {
		comesBack(t, alone(n&15, n))
		comesBack(t, all(n))
		comesBack(t, api.Block{end, n, -end, n, -n, 1, end, -1, n, n, -end, -end, 0, end, -n, n})
	}
}

// P4.3: Back of Forward is the block, of numbers of all lengths.
func TestBackOfForwardOfMany(t *testing.T) {
	s := numbers(3)
	for range 20000 {
		comesBack(t, s.block(end>>(s.next()%16)))
	}
}

// apart is how far two blocks' numbers are from one another, at most.
func apart(a, b api.Block) int {
	far := 0
	for i := range 16 {
		far = max(far, a[i]-b[i], b[i]-a[i])
	}
	return far
}

// beside is a block that is at most e from another one, of many kinds: some at e in each place, some less.
func beside(s *numbers, b api.Block, e int) api.Block {
	by := patterned(int(s.next()&0xFFFF), e)
	loose := s.next()%2 == 0
	for i := range b {
		if loose {
			by[i] = s.within(e)
		}
		b[i] += by[i]
	}
	return b
}

// ways are how far coefficients may be from one another.
var ways = []int{0, 1, 2, 3, 7, 8, 9, 15, 16, 17, 96, 1000, 32767, 32768}

// P4.3: coefficients at most e beside others make numbers at most e beside theirs: of small ones, of great ones, and of those that are clamped.
func TestBackStaysBeside(t *testing.T) {
	s := numbers(4)
	for _, e := range ways {
		for range 2000 {
			for _, reach := range []int{20, 1000, end, 16 * end, most, 2 * most} {
				a := s.block(reach)
				b := beside(&s, a, e)
				if far := apart(Back(a), Back(b)); far > e {
					t.Fatalf("%v and %v, at most %d apart: %d", a, b, e, far)
				}
			}
		}
	}
}

// P4.3: in each of the 65536 ways of signs, at the greatest e, and at 1, from any remainder.
func TestBackStaysBesideInAllWays(t *testing.T) {
	for pattern := range 1 << 16 {
		from := api.Block{pattern % 31, 5, -3}
		for _, e := range []int{1, 32768} {
			to := More(from, patterned(pattern, e))
			if far := apart(Back(from), Back(to)); far > e {
				t.Fatalf("%v and %v, at most %d apart: %d", from, to, e, far)
			}
		}
	}
}

// P4.3: e itself is reached, where coefficients go by the waves of a place: so no less is promised.
func TestBackReachesBeside(t *testing.T) {
	for _, e := range ways {
		for at := range 16 {
			for _, n := range []int{e, -e} {
				to := Forward(alone(at, n))
				if x := Back(to); x != alone(at, n) || apart(x, Back(api.Block{})) != e {
					t.Errorf("%v: %v", to, x)
				}
			}
		}
	}
}

// R4, R5: a call answers the same again, whatever became of an answer before; a block that is handed in stays.
func TestAnswersAreTheirOwn(t *testing.T) {
	a, b := api.Block{1, 2, 3, most + 5}, api.Block{9, -most - 5, 7}
	keptA, keptB := a, b
	f, g, h, k := Forward(a), Back(a), Less(a, b), More(a, b)
	again := f
	f[0], f[15] = 77, 78
	if Forward(a) != again || Back(a) != g || Less(a, b) != h || More(a, b) != k || a != keptA || b != keptB {
		t.Error("an answer hangs on another one")
	}
}
