package order

import (
	"math"
	"slices"
	"testing"

	"clapboard/api"
)

// numbers are numbers one behind the other that look like chance, and are the same in each run.
type numbers uint64

func (n *numbers) next() uint64 {
	*n = *n*6364136223846793005 + 1442695040888963407
	return uint64(*n >> 11)
}

// below is a number from 0 to m - 1.
func (n *numbers) below(m int) int { return int(n.next() % uint64(m)) }

// rising is the list of 0 to n - 1.
func rising(n int) []int {
	var l []int
	for m := range n {
		l = append(l, m)
	}
	return l
}

// falling is that of n - 1 to 0.
func falling(n int) []int {
	l := rising(n)
	slices.Reverse(l)
	return l
}

// mixed is one that has each of 0 to n - 1 once, those that are at most far places apart changed with one another.
func (n *numbers) mixed(many, far int) []int {
	l := rising(many)
	for at := range l {
		with := min(at+n.below(far+1), many-1)
		l[at], l[with] = l[with], l[at]
	}
	return l
}

// leastMissing is the least number from 0 on that a list does not have.
func leastMissing(l []int) int {
	n := 0
	for slices.Contains(l, n) {
		n++
	}
	return n
}

// checkShow holds Show to the chapter's words: as many are held at a place as were told up to it, but for those from 0 on of which none was missing ahead of it.
func checkShow(t *testing.T, l []int) {
	t.Helper()
	given := slices.Clone(l)
	places, most, e := Show(l)
	if e != api.OK || !slices.Equal(l, given) {
		t.Fatalf("%v: %d, %v", given, e, l)
	}
	var want []int
	held := 0
	for n := range l {
		want = append(want, slices.Index(l, n))
		held = max(held, n+1-leastMissing(l[:n]))
	}
	if !slices.Equal(places, want) || most != held {
		t.Fatalf("%v: %v, %d, not %v, %d", l, places, most, want, held)
	}
}

// checkNoShow holds Show to ErrOrder.
func checkNoShow(t *testing.T, l []int) {
	t.Helper()
	given := slices.Clone(l)
	if places, most, e := Show(l); len(places) != 0 || most != 0 || e != api.ErrOrder {
		t.Errorf("%v: %v, %d, %d", l, places, most, e)
	}
	if !slices.Equal(l, given) {
		t.Errorf("%v is %v", given, l)
	}
}

// P15.2: the chapter's example, and others by hand: lists that rise, that fall, and of which the least comes last.
func TestShowByHand(t *testing.T) {
	for i, c := range []struct {
		l, want []int
		held    int
	}{
		{[]int{0, 2, 1, 4, 3}, []int{0, 2, 1, 4, 3}, 2},
		{[]int{0}, []int{0}, 1},
		{[]int{0, 1}, []int{0, 1}, 1},
		{[]int{1, 0}, []int{1, 0}, 2},
		{[]int{0, 1, 2, 3}, []int{0, 1, 2, 3}, 1},
		{[]int{2, 1, 0}, []int{2, 1, 0}, 3},
		{[]int{3, 2, 1, 0}, []int{3, 2, 1, 0}, 4},
		{[]int{1, 2, 3, 0}, []int{3, 0, 1, 2}, 4},
		{[]int{0, 3, 1, 2}, []int{0, 2, 3, 1}, 2},
		{[]int{0, 3, 2, 1}, []int{0, 3, 2, 1}, 3},
		{[]int{2, 0, 1}, []int{1, 2, 0}, 2},
		{[]int{3, 0, 4, 1, 2}, []int{1, 3, 4, 0, 2}, 3},
		{[]int{2, 3, 0, 1, 4}, []int{2, 3, 0, 1, 4}, 3},
		{[]int{4, 0, 3, 1, 2}, []int{1, 3, 4, 2, 0}, 3},
	} {
		places, most, e := Show(c.l)
		if !slices.Equal(places, c.want) || most != c.held || e != api.OK {
			t.Errorf("%d: %v, %d, %d, not %v, %d", i, places, most, e, c.want, c.held)
		}
	}
}

// P15.2: each order of up to seven.
func TestShowOfEachOrder(t *testing.T) {
	var from func(l []int, at int)
	from = func(l []int, at int) {
		if at == len(l) {
			checkShow(t, l)
			return
		}
		for with := at; with < len(l); with++ {
			l[at], l[with] = l[with], l[at]
			from(l, at+1)
			l[at], l[with] = l[with], l[at]
		}
	}
	for n := 1; n <= 7; n++ {
		from(rising(n), 0)
	}
}

// P15.2: lists up to the longest, that rise, that fall, with the least last, with the greatest first, and mixed near and far.
func TestShowOfMany(t *testing.T) {
	chance := numbers(15)
	for n := 1; n <= 200; n++ {
		checkShow(t, rising(n))
		checkShow(t, falling(n))
		checkShow(t, append(rising(n)[1:], 0))
		checkShow(t, append([]int{n - 1}, rising(n-1)...))
		for _, far := range []int{1, 4, 30, 200} {
			checkShow(t, chance.mixed(n, far))
		}
	}
}

// P15.2: as many members as may not be: none, 201, and more.
func TestShowWrongMany(t *testing.T) {
	checkNoShow(t, nil)
	checkNoShow(t, []int{})
	checkNoShow(t, make([]int, 0, 5))
	for _, n := range []int{201, 202, 256, 257, 400, 1 << 16, 1<<16 + 1} {
		checkNoShow(t, rising(n))
		checkNoShow(t, falling(n))
		checkNoShow(t, make([]int, n))
	}
}

// P15.2: lists with a member that may not be, at each place: below 0, as many as there are, more, and both ends of an int. In each of them one is missing.
func TestShowWrongMember(t *testing.T) {
	for _, n := range []int{1, 2, 3, 16, 199, 200} {
		for _, wrong := range append([]int{-3, -2, -1, n, n + 1, 2 * n, -n, math.MinInt, math.MaxInt}, far...) {
			for at := range n {
				l := rising(n)
				l[at] = wrong
				checkNoShow(t, l)
			}
		}
	}
}

// P15.2: lists with a member that is told twice, so that one is missing: each beside each.
func TestShowTwice(t *testing.T) {
	for n := 2; n <= 20; n++ {
		for at := range n {
			for other := range n {
				if at != other {
					l := falling(n)
					l[at] = l[other]
					checkNoShow(t, l)
				}
			}
		}
	}
	for _, n := range []int{2, 3, 199, 200} {
		checkNoShow(t, make([]int, n))
		checkNoShow(t, append(rising(n)[1:], n-1))
		checkNoShow(t, append(rising(n)[1:], n))
		checkNoShow(t, append(rising(n-1), 0))
	}
}

// R4: a list stays as it was, its spare room too, and shares no memory with what is answered, nor do two answers.
func TestShowApart(t *testing.T) {
	l := []int{0, 3, 1, 2, -7, -8, -9}
	places, _, _ := Show(l[:4])
	other, _, _ := Show(l[:4])
	for at := range places[:cap(places)] {
		places[:cap(places)][at] = -5
	}
	if !slices.Equal(l, []int{0, 3, 1, 2, -7, -8, -9}) || !slices.Equal(other, []int{0, 2, 3, 1}) {
		t.Errorf("%v, %v", l, other)
	}
	l[1] = 77
	if !slices.Equal(other, []int{0, 2, 3, 1}) {
		t.Errorf("%v", other)
	}
	checkNoShow(t, l[:4])
	if _, _, e := Show(l[:7]); e != api.ErrOrder || !slices.Equal(l, []int{0, 77, 1, 2, -7, -8, -9}) {
		t.Errorf("%v, %d", l, e)
	}
}

// R5: what stood in an earlier call, one that was refused too, tells nothing in a later one.
func TestShowAgain(t *testing.T) {
	for range 3 {
		checkShow(t, []int{4, 3, 2, 1, 0})
		checkNoShow(t, []int{4, 3, 2, 1, 4})
		checkShow(t, []int{0, 2, 1, 4, 3})
		checkShow(t, []int{0})
	}
}
