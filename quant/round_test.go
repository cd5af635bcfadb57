package quant

import (
	"math"
	"testing"

	"clapboard/api"
)

// apart is how far two blocks' numbers are from one another, at most.
func apart(a, b api.Block) int {
	far := 0
	for at := range a {
		far = max(far, a[at]-b[at], b[at]-a[at])
	}
	return far
}

// counted is a block of sixteen numbers that follow one another, up to MaxLevel.
func counted(from int) api.Block {
	var b api.Block
	for at := range b {
		b[at] = min(from+at, most)
	}
	return b
}

// P5.3: Up of Down is at most Bound beside what it was: of each number there is, by each quality; by 0 it is it. And somewhere it is as far as Bound: no lesser one would do.
func TestUpOfDownEachNumber(t *testing.T) {
	for q := range known {
		bound, e := Bound(q)
		if e != api.OK || q == 0 && bound != 0 {
			t.Fatalf("Bound(%d): %d, %d", q, bound, e)
		}
		far := 0
		for from := -most; from <= most; from += 16 {
			b := counted(from)
			back := up(t, down(t, b, q), q)
			far = max(far, apart(b, back))
			if q == 0 && b != back {
				t.Fatalf("%v came back as %v", b, back)
			}
		}
		if far != bound {
			t.Errorf("by %d: %d beside, and Bound is %d", q, far, bound)
		}
	}
}

// P5.3: numbers beyond both ends come back beside the end that they are clamped to.
func TestUpOfDownBeyond(t *testing.T) {
	for q, s := range known {
		for _, n := range []int{most + 1, most + s.bound, most + s.step, 1 << 32, 1 << 40, math.MaxInt} {
			back := up(t, down(t, api.Block{n, -n, n, -n - 1}, q), q)
			if far := apart(back, api.Block{most, -most, most, -most}); far > s.bound {
				t.Errorf("%d by %d: %v", n, q, back)
			}
			if q == 0 && back != (api.Block{most, -most, most, -most}) {
				t.Errorf("%d by 0: %v", n, back)
			}
		}
	}
}

// P5.2: what a level stands for has that level: each one that Down may answer.
func TestDownOfUp(t *testing.T) {
	for q, s := range known {
		end := most / s.step
		for from := -end; from+15 <= end; from += 16 {
			l := counted(from)
			if back := down(t, up(t, l, q), q); back != l {
				t.Fatalf("%v by %d: %v", l, q, back)
			}
		}
	}
}

// P5.2: a greater number never has a lesser level, and a number and its other sign have levels of other signs.
func TestLevelsRise(t *testing.T) {
	for q := range known {
		before := math.MinInt
		for from := -2000; from <= 2000; from += 16 {
			b := counted(from)
			l := down(t, b, q)
			for at, n := range l {
				if n < before {
					t.Fatalf("%d by %d: %d behind %d", b[at], q, n, before)
				}
				before = n
				b[at], l[at] = -b[at], -n
			}
			if down(t, b, q) != l {
				t.Fatalf("%v by %d: %v", b, q, down(t, b, q))
			}
		}
	}
}
