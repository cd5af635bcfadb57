package vector

import (
	"math"
	"slices"
	"testing"

	"clapboard/api"
)

// numbers are numbers one behind the other that look like chance, and are the same in each run.
type numbers uint64

func (n *numbers) next() uint64 {
	*n = *n*6364136223846793005 + 1442695040888963407
	return uint64(*n >> 11)
}

// below is a number from 0 to m - 1.
func (n *numbers) below(m int) int { return int(n.next() % uint64(m)) }

// vector is one that may be.
func (n *numbers) vector() api.Vector { return of(n.below(63)-31, n.below(63)-31) }

// of is a vector of two numbers.
func of(x, y int) api.Vector { return api.Vector{X: x, Y: y} }

// none is the vector of 0 and 0.
var none api.Vector

// far are numbers that no field, no place and no vector has, both ends of an int among them.
var far = []int{
	math.MinInt, math.MinInt + 1, math.MinInt + 2, math.MinInt64/2 - 1, math.MinInt64 / 2, -1<<32 - 1, -1 << 32, -1<<32 + 1, math.MinInt32 - 1, math.MinInt32, -1 << 16, -257, -256, -255,
	255, 256, 257, 1 << 16, math.MaxInt32, math.MaxInt32 + 1, 1<<32 - 1, 1 << 32, 1<<32 + 1, 1<<32 + 8, math.MaxInt64 / 2, math.MaxInt64/2 + 1, math.MaxInt - 2, math.MaxInt - 1, math.MaxInt,
}

// mayNot are numbers that a vector may not have.
var mayNot = append([]int{-129, -128, -65, -64, -63, -33, -32, 32, 33, 63, 64, 65, 128, 129}, far...)

// second is, of three numbers, the second one, when they stand in order.
func second(a, b, c int) int {
	l := []int{a, b, c}
	slices.Sort(l)
	return l[1]
}

// middle is the chapter's Median.
func middle(a, b, c api.Vector) api.Vector {
	return of(second(a.X, b.X, c.X), second(a.Y, b.Y, c.Y))
}

// inEachOrder gives three vectors in each of their orders.
func inEachOrder(a, b, c api.Vector) [][3]api.Vector {
	return [][3]api.Vector{{a, b, c}, {a, c, b}, {b, a, c}, {b, c, a}, {c, a, b}, {c, b, a}}
}

// P10.1: vectors by hand, the chapter's example ahead, in each order; X and Y apart, two and three alike, both ends of an int.
func TestMedianByHand(t *testing.T) {
	const least, most = math.MinInt, math.MaxInt
	for _, c := range []struct{ a, b, c, want api.Vector }{
		{of(1, 5), of(3, 3), of(2, 9), of(2, 5)},
		{of(1, 1), of(2, 2), of(3, 3), of(2, 2)},
		{of(1, 3), of(2, 2), of(3, 1), of(2, 2)},
		{of(1, 2), of(2, 3), of(3, 1), of(2, 2)},
		{of(-1, 10), of(-2, 30), of(-3, 20), of(-2, 20)},
		{of(-5, 0), of(0, 7), of(5, -7), of(0, 0)},
		{of(1, 1), of(1, 1), of(9, -9), of(1, 1)},
		{of(4, 1), of(4, 2), of(-4, 2), of(4, 2)},
		{of(4, 7), of(5, 7), of(6, 8), of(5, 7)},
		{of(6, 6), of(6, 6), of(6, 6), of(6, 6)},
		{none, none, of(31, -31), none},
		{none, none, none, none},
		{none, of(31, -31), of(30, -30), of(30, -30)},
		{of(least, most), of(0, 0), of(most, least), of(0, 0)},
		{of(least, most), of(least, most), of(most, least), of(least, most)},
		{of(least, least), of(least+1, least+1), of(most, most), of(least+1, least+1)},
		{of(most, most), of(most-1, most-1), of(least, least), of(most-1, most-1)},
		{of(most, least), of(most, least), of(most, least), of(most, least)},
		{of(least, 1), of(-1, most), of(1, most), of(-1, most)},
	} {
		for _, o := range inEachOrder(c.a, c.b, c.c) {
			if m := Median(o[0], o[1], o[2]); m != c.want {
				t.Errorf("%v: %v, not %v", o, m, c.want)
			}
		}
	}
}

// P10.1: each three of some numbers as X, with each three as Y, both ends of an int among them.
func TestMedianOfEachThree(t *testing.T) {
	const many = 6
	some := [many]int{math.MinInt, -31, -1, 0, 5, math.MaxInt}
	three := func(n int) (int, int, int) {
		return some[n%many], some[n/many%many], some[n/many/many%many]
	}
	for i := range many * many * many {
		for k := range many * many * many {
			var a, b, c api.Vector
			a.X, b.X, c.X = three(i)
			a.Y, b.Y, c.Y = three(k)
			if m, want := Median(a, b, c), middle(a, b, c); m != want {
				t.Fatalf("%v, %v, %v: %v, not %v", a, b, c, m, want)
			}
		}
	}
}

// P10.1: numbers that look like chance, near to one another, and of all lengths.
func TestMedianOfMany(t *testing.T) {
	n := numbers(200)
	for range 50000 {
		var l [3]api.Vector
		for i := range l {
			l[i] = of(n.below(9)-4, n.below(9)-4)
			if n.below(2) == 0 {
				l[i] = of(int(n.next()<<11)>>n.below(64), int(n.next()<<11)>>n.below(64))
			}
		}
		if m, want := Median(l[0], l[1], l[2]), middle(l[0], l[1], l[2]); m != want {
			t.Fatalf("%v: %v, not %v", l, m, want)
		}
	}
}
