package vector

import (
	"math"
	"testing"

	"clapboard/api"
)

// plain is a field by the chapter's words: its rows of vectors.
type plain [][]api.Vector

// fresh is a field that was just made, and what it should be.
func fresh(t *testing.T, w, h int) (*Field, plain) {
	t.Helper()
	f, e := New(w, h)
	if f == nil || e != api.OK {
		t.Fatalf("%d by %d: %v, %d", w, h, f, e)
	}
	p := make(plain, h)
	for y := range p {
		p[y] = make([]api.Vector, w)
	}
	return f, p
}

// has tells whether there is a block.
func (p plain) has(x, y int) bool {
	return y >= 0 && y < len(p) && x >= 0 && x < len(p[y])
}

// at is a block's vector: 0 and 0, of one that there is not.
func (p plain) at(x, y int) api.Vector {
	if !p.has(x, y) {
		return none
	}
	return p[y][x]
}

// guess is the chapter's Guess. Of the farthest places there is nothing beside, and what is one less, or more, may be no number.
func (p plain) guess(x, y int) api.Vector {
	if min(x, y) < -1 || max(x, y) > 99 {
		return none
	}
	return middle(p.at(x-1, y), p.at(x, y-1), p.at(x+1, y-1))
}

// set lays a vector that may be, in both.
func set(t *testing.T, f *Field, p plain, x, y int, v api.Vector) {
	t.Helper()
	if e := f.Set(x, y, v); e != api.OK {
		t.Errorf("%d, %d: %d", x, y, e)
	}
	p[y][x] = v
}

// fill lays a vector at each block, all unlike none.
func fill(t *testing.T, f *Field, p plain, n *numbers) {
	t.Helper()
	for y, row := range p {
		for x := range row {
			set(t, f, p, x, y, of(1+n.below(31), -1-n.below(31)))
		}
	}
}

// guessed holds all guesses of f, those outside too, to p's; and f has no more vectors than p.
func guessed(t *testing.T, name string, f *Field, p plain) {
	t.Helper()
	for y := -3; y <= len(p)+3; y++ {
		for x := -3; x <= len(p[0])+3; x++ {
			if g, want := f.Guess(x, y), p.guess(x, y); g != want {
				t.Errorf("%s: at %d, %d of %d by %d: %v, not %v", name, x, y, len(p[0]), len(p), g, want)
			}
		}
	}
	many := 0
	for _, row := range p {
		for _, v := range row {
			if v != none {
				many++
			}
		}
	}
	if len(f.vectors) != many {
		t.Errorf("%s: %d vectors, not %d", name, len(f.vectors), many)
	}
}

// P10.2: each number of blocks that a field may have, each way; none of them has a vector.
func TestNew(t *testing.T) {
	for w := 1; w <= 16; w++ {
		for h := 1; h <= 16; h++ {
			f, p := fresh(t, w, h)
			guessed(t, "without vectors", f, p)
		}
	}
}

// P10.2: other numbers, of one way or of both; there is no field then.
func TestNewOfNone(t *testing.T) {
	wrong := append([]int{-17, -16, -2, -1, 0, 17, 18, 31, 32, 33, 64}, far...)
	right := []int{1, 2, 8, 15, 16}
	for _, n := range wrong {
		for _, other := range append(right, wrong...) {
			for _, c := range [][2]int{{n, other}, {other, n}} {
				if f, e := New(c[0], c[1]); f != nil || e != api.ErrArg {
					t.Errorf("%v: %v, %d", c, f, e)
				}
			}
		}
	}
}

// P10.2: of each size, a vector at each block is laid, and no other block is told by it.
func TestSetEachBlock(t *testing.T) {
	for w := 1; w <= 16; w++ {
		for h := 1; h <= 16; h++ {
			f, p := fresh(t, w, h)
			for y, row := range p {
				for x := range row {
					set(t, f, p, x, y, of(x+1, -y-1))
				}
			}
			guessed(t, "full", f, p)
		}
	}
}

// P10.2: where there is no block nothing is laid, whatever the vector: ErrArg comes ahead of motion.Check's error. No guess is another one then.
func TestSetOutside(t *testing.T) {
	n := numbers(210)
	for _, sides := range [][2]int{{1, 1}, {1, 16}, {16, 1}, {16, 16}, {3, 2}, {7, 9}} {
		w, h := sides[0], sides[1]
		f, p := fresh(t, w, h)
		fill(t, f, p, &n)
		for way, ends := range [][]int{{0, w - 1}, {0, h - 1}} {
			beyond := append([]int{-w, -h, -2, -1, ends[1] + 1, ends[1] + 2, 17, 32}, far...)
			for _, out := range beyond {
				for _, other := range append([]int{0, [2]int{h, w}[way] - 1}, beyond...) {
					x, y := out, other
					if way == 1 {
						x, y = other, out
					}
					if p.has(x, y) {
						continue
					}
					for _, v := range []api.Vector{none, of(1, 1), of(31, -31), of(32, 0), of(0, -32), of(math.MinInt, math.MaxInt)} {
						if e := f.Set(x, y, v); e != api.ErrArg {
							t.Errorf("%d, %d of %v: %d", x, y, sides, e)
						}
					}
				}
			}
		}
		guessed(t, "outside", f, p)
	}
}

// P10.2: at the corners of a field, and one beyond them, written out.
func TestSetAtTheEnds(t *testing.T) {
	for _, c := range []struct {
		x, y int
		want api.Errno
	}{
		{0, 0, api.OK}, {4, 0, api.OK}, {0, 2, api.OK}, {4, 2, api.OK},
		{-1, 0, api.ErrArg}, {0, -1, api.ErrArg}, {5, 0, api.ErrArg}, {4, -1, api.ErrArg}, {-1, 2, api.ErrArg}, {0, 3, api.ErrArg}, {5, 2, api.ErrArg}, {4, 3, api.ErrArg},
		{2, 4, api.ErrArg}, {3, 3, api.ErrArg}, {math.MinInt, 0, api.ErrArg}, {0, math.MinInt, api.ErrArg}, {math.MaxInt, 0, api.ErrArg}, {0, math.MaxInt, api.ErrArg},
	} {
		f, _ := fresh(t, 5, 3)
		if e := f.Set(c.x, c.y, of(1, 1)); e != c.want {
			t.Errorf("%d, %d: %d, not %d", c.x, c.y, e, c.want)
		}
	}
}

// P10.2: a vector that may be is laid, both ends among them; another one is not, and what was laid stays.
func TestSetOfVectors(t *testing.T) {
	f, p := fresh(t, 2, 2)
	set(t, f, p, 1, 0, of(31, 31))
	for x := -31; x <= 31; x++ {
		for y := -31; y <= 31; y++ {
			set(t, f, p, 0, 0, of(x, y))
			// Of 0 and the greatest number the second one is the third, if it is not below 0.
			if g, want := f.Guess(0, 1), of(max(x, 0), max(y, 0)); g != want {
				t.Fatalf("%d, %d: %v, not %v", x, y, g, want)
			}
			guessed(t, "a vector that may be", f, p)
		}
	}
	for _, old := range []api.Vector{none, of(5, -6)} {
		set(t, f, p, 0, 0, old)
		for _, n := range mayNot {
			for _, other := range append([]int{-31, 0, 1, 31}, mayNot...) {
				for _, v := range []api.Vector{of(n, other), of(other, n)} {
					if e := f.Set(0, 0, v); e != api.ErrVector {
						t.Errorf("%v: %d", v, e)
					}
				}
			}
		}
		guessed(t, "vectors that may not be", f, p)
	}
}

// P10.2: a vector that is laid, laid anew as another one, and as none, at each block; none that was laid anew has no vector in the field.
func TestSetAnew(t *testing.T) {
	n := numbers(211)
	for _, sides := range [][2]int{{1, 1}, {1, 5}, {5, 1}, {4, 3}} {
		f, p := fresh(t, sides[0], sides[1])
		for round := range 2 {
			for y, row := range p {
				for x := range row {
					for _, v := range []api.Vector{of(9, 9), of(9, 9), of(-8, 3), of(0, 4), of(-4, 0), none, none, of(7, -7)} {
						set(t, f, p, x, y, v)
						guessed(t, "anew", f, p)
					}
					if round == 0 {
						set(t, f, p, x, y, none)
					}
				}
			}
		}
		for y, row := range p {
			for x := range row {
				set(t, f, p, x, y, none)
				guessed(t, "none again", f, p)
			}
		}
		fill(t, f, p, &n)
		guessed(t, "full again", f, p)
	}
}

// P10.2: a guess is of the block to the left, of that above, of that above to the right, and of no other one; written out.
func TestGuessByHand(t *testing.T) {
	f, p := fresh(t, 3, 3)
	rows := [3][3]api.Vector{
		{of(1, -9), of(2, -8), of(3, -7)},
		{of(4, -6), of(5, -5), of(6, -4)},
		{of(7, -3), of(8, -2), of(9, -1)},
	}
	for y, row := range rows {
		for x, v := range row {
			set(t, f, p, x, y, v)
		}
	}
	for _, c := range []struct {
		x, y int
		want api.Vector
	}{
		// The first row has nothing above; its first block has nothing at all.
		{0, 0, none}, {1, 0, none}, {2, 0, none},
		// Of the left column nothing is to the left, of the right one nothing above to the right.
		{0, 1, of(1, -8)}, {1, 1, of(3, -7)}, {2, 1, of(3, -5)},
		{0, 2, of(4, -5)}, {1, 2, of(6, -4)}, {2, 2, of(6, -2)},
		// Outside there are blocks beside, too.
		{-1, 0, none}, {-1, 1, none}, {-1, 2, none}, {-1, 3, none}, {-2, 1, none},
		{0, -1, none}, {1, -1, none}, {3, -1, none}, {-1, -1, none},
		{3, 0, none}, {3, 1, none}, {3, 2, none}, {3, 3, none}, {4, 1, none},
		{0, 3, of(7, -2)}, {1, 3, of(8, -1)}, {2, 3, none}, {1, 4, none},
	} {
		if g := f.Guess(c.x, c.y); g != c.want {
			t.Errorf("%d, %d: %v, not %v", c.x, c.y, g, c.want)
		}
	}
	set(t, f, p, 1, 0, of(-31, 31))
	set(t, f, p, 0, 1, of(31, -31))
	for _, c := range []struct {
		x, y int
		want api.Vector
	}{{0, 1, of(0, 0)}, {1, 1, of(3, -7)}, {2, 1, of(3, -5)}, {0, 2, of(5, -5)}} {
		if g := f.Guess(c.x, c.y); g != c.want {
			t.Errorf("laid anew, %d, %d: %v, not %v", c.x, c.y, g, c.want)
		}
	}
}

// P10.2: which blocks a guess is of: with two of one vector at two blocks alone, it is guessed just where both are beside.
func TestGuessOfEachPair(t *testing.T) {
	v := of(11, -12)
	f, p := fresh(t, 4, 4)
	for a := range 16 {
		for b := range a {
			set(t, f, p, a%4, a/4, v)
			set(t, f, p, b%4, b/4, v)
			guessed(t, "a pair", f, p)
			set(t, f, p, a%4, a/4, none)
			set(t, f, p, b%4, b/4, none)
		}
	}
}

// P10.2, R1: guesses far outside, as far as an int goes, one way or both: there is nothing beside.
func TestGuessFarOutside(t *testing.T) {
	n := numbers(212)
	for _, sides := range [][2]int{{1, 1}, {1, 16}, {16, 1}, {16, 16}} {
		f, p := fresh(t, sides[0], sides[1])
		fill(t, f, p, &n)
		for _, out := range append([]int{-65, -17, -16, -3, -2, 18, 19, 32, 65}, far...) {
			for _, other := range append([]int{-2, -1, 0, 1, 14, 15, 16, 17}, far...) {
				if a, b := f.Guess(out, other), f.Guess(other, out); a != none || b != none {
					t.Errorf("%d, %d of %v: %v, %v", out, other, sides, a, b)
				}
			}
		}
	}
}

// P10.2, R3, R5: vectors, places outside, and vectors that may not be, one behind the other as by chance; each is answered, and each guess is what it should be.
func TestFieldAsByChance(t *testing.T) {
	n := numbers(213)
	for range 120 {
		f, p := fresh(t, 1+n.below(16), 1+n.below(16))
		for range 60 {
			x, y := n.below(len(p[0])+2)-1, n.below(len(p)+2)-1
			v := of(n.below(67)-33, n.below(67)-33)
			if n.below(3) == 0 {
				v = none
			}
			want := api.OK
			switch {
			case !p.has(x, y):
				want = api.ErrArg
			case max(v.X, -v.X, v.Y, -v.Y) > 31:
				want = api.ErrVector
			default:
				p[y][x] = v
			}
			if e := f.Set(x, y, v); e != want {
				t.Fatalf("%d, %d, %v: %d, not %d", x, y, v, e, want)
			}
		}
		guessed(t, "by chance", f, p)
		guessed(t, "once more", f, p)
	}
}

// P10.2, R4: what is laid in one field is not in another one.
func TestFieldsOfTheirOwn(t *testing.T) {
	n := numbers(214)
	f, p := fresh(t, 5, 5)
	g, q := fresh(t, 5, 5)
	fill(t, f, p, &n)
	guessed(t, "the other one", g, q)
	fill(t, g, q, &n)
	set(t, f, p, 2, 2, none)
	guessed(t, "the first", f, p)
	guessed(t, "the second", g, q)
}

// P10.2, R1: of none Set answers ErrArg, ahead of all else, and Guess nothing; a field that was made by hand has no blocks.
func TestFieldOfNone(t *testing.T) {
	for name, f := range map[string]*Field{"none": nil, "by hand": {}} {
		for _, x := range append([]int{-1, 0, 1}, far...) {
			for _, y := range append([]int{-1, 0, 1}, far...) {
				for _, v := range []api.Vector{none, of(3, 4), of(32, 0), of(math.MaxInt, math.MinInt)} {
					if e := f.Set(x, y, v); e != api.ErrArg {
						t.Errorf("%s: %d, %d: %d", name, x, y, e)
					}
				}
				if g := f.Guess(x, y); g != none {
					t.Errorf("%s: %d, %d: %v", name, x, y, g)
				}
			}
		}
	}
}
