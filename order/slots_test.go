package order

import (
	"cmp"
	"math"
	"slices"
	"testing"

	"clapboard/api"
)

// slot is the one of a place in a film of n places, by that place alone.
func slot(place, n int, p api.Plan) api.Slot {
	first := place / p.Group * p.Group
	last := min(first+p.Group, n) - 1
	// step is the last place, up to another, that whole steps of Between and 1 places lead to.
	step := func(at int) int { return first + (at-first)/(p.Between+1)*(p.Between+1) }
	switch {
	case place == first:
		return api.Slot{Display: place, Kind: 0, Past: -1, Next: -1}
	case place == last || step(place) == place:
		return api.Slot{Display: place, Kind: 1, Past: step(place - 1), Next: -1}
	}
	return api.Slot{Display: place, Kind: 2, Past: step(place), Next: min(step(place)+p.Between+1, last)}
}

// slots are those of a film: each behind the one that it waits for, and else as they are shown.
func slots(n int, p api.Plan) []api.Slot {
	var l []api.Slot
	for place := range n {
		l = append(l, slot(place, n, p))
	}
	waits := func(s api.Slot) int { return max(2*s.Display, 2*s.Next+1) }
	slices.SortStableFunc(l, func(a, b api.Slot) int { return cmp.Compare(waits(a), waits(b)) })
	return l
}

// told are the slots of a plan and a number that may be.
func told(t *testing.T, n int, p api.Plan) []api.Slot {
	t.Helper()
	l, e := Slots(n, p)
	if e != api.OK {
		t.Fatalf("%d, %+v: %d", n, p, e)
	}
	return l
}

// displays are the places of slots.
func displays(l []api.Slot) []int {
	var d []int
	for _, s := range l {
		d = append(d, s.Display)
	}
	return d
}

// P15.1: the chapter's example.
func TestSlotsExample(t *testing.T) {
	l := told(t, 5, api.Plan{Group: 5, Between: 1})
	var kinds []int
	for _, s := range l {
		kinds = append(kinds, s.Kind)
	}
	if !slices.Equal(displays(l), []int{0, 2, 1, 4, 3}) || !slices.Equal(kinds, []int{0, 1, 2, 1, 2}) {
		t.Errorf("%v", l)
	}
}

// P15.1: slots by hand: groups of one place, one group for all, last groups with fewer places, and with one; steps that end at a group's last place, and such that would go beyond it.
func TestSlotsByHand(t *testing.T) {
	of := func(kind, display, past, next int) api.Slot {
		return api.Slot{Display: display, Kind: kind, Past: past, Next: next}
	}
	i := func(display int) api.Slot { return of(0, display, -1, -1) }
	p := func(display, past int) api.Slot { return of(1, display, past, -1) }
	b := func(display, past, next int) api.Slot { return of(2, display, past, next) }
	for k, c := range []struct {
		n, group, between int
		want              []api.Slot
	}{
		{1, 1, 0, []api.Slot{i(0)}},
		{1, 16, 3, []api.Slot{i(0)}},
		{3, 1, 3, []api.Slot{i(0), i(1), i(2)}},
		{4, 16, 0, []api.Slot{i(0), p(1, 0), p(2, 1), p(3, 2)}},
		{2, 16, 3, []api.Slot{i(0), p(1, 0)}},
		{3, 16, 3, []api.Slot{i(0), p(2, 0), b(1, 0, 2)}},
		{5, 16, 3, []api.Slot{i(0), p(4, 0), b(1, 0, 4), b(2, 0, 4), b(3, 0, 4)}},
		{6, 16, 3, []api.Slot{i(0), p(4, 0), b(1, 0, 4), b(2, 0, 4), b(3, 0, 4), p(5, 4)}},
		{7, 16, 3, []api.Slot{i(0), p(4, 0), b(1, 0, 4), b(2, 0, 4), b(3, 0, 4), p(6, 4), b(5, 4, 6)}},
		{5, 5, 1, []api.Slot{i(0), p(2, 0), b(1, 0, 2), p(4, 2), b(3, 2, 4)}},
		{4, 4, 1, []api.Slot{i(0), p(2, 0), b(1, 0, 2), p(3, 2)}},
		{7, 4, 2, []api.Slot{i(0), p(3, 0), b(1, 0, 3), b(2, 0, 3), i(4), p(6, 4), b(5, 4, 6)}},
		{5, 4, 2, []api.Slot{i(0), p(3, 0), b(1, 0, 3), b(2, 0, 3), i(4)}},
		{5, 2, 3, []api.Slot{i(0), p(1, 0), i(2), p(3, 2), i(4)}},
		{8, 3, 1, []api.Slot{i(0), p(2, 0), b(1, 0, 2), i(3), p(5, 3), b(4, 3, 5), i(6), p(7, 6)}},
	} {
		if l := told(t, c.n, api.Plan{Group: c.group, Between: c.between}); !slices.Equal(l, c.want) {
			t.Errorf("%d: %v, not %v", k, l, c.want)
		}
	}
}

// P15.1: each plan beside each number of frames, by what each place is by itself; a quality tells nothing of it.
func TestSlotsOfAll(t *testing.T) {
	for _, p := range plans(0) {
		for n := 1; n <= 200; n++ {
			want := slots(n, p)
			if l := told(t, n, p); !slices.Equal(l, want) {
				t.Fatalf("%d, %+v: %v, not %v", n, p, l, want)
			}
			p.Quality = n % 21
			if l := told(t, n, p); !slices.Equal(l, want) {
				t.Fatalf("%d, %+v: %v, not %v", n, p, l, want)
			}
		}
	}
}

// P15.1: Check's error, whatever the number is.
func TestSlotsWrongPlan(t *testing.T) {
	for _, p := range wrongPlans() {
		for _, n := range []int{math.MinInt, -1, 0, 1, 2, 16, 200, 201, math.MaxInt} {
			if l, e := Slots(n, p); len(l) != 0 || e != api.ErrOrder {
				t.Errorf("%d, %+v: %v, %d", n, p, l, e)
			}
		}
	}
}

// P15.1: numbers of frames that may not be, beside each plan.
func TestSlotsWrongNumber(t *testing.T) {
	for _, p := range plans(6) {
		for _, n := range append([]int{-2, -1, 0, 201, 202}, far...) {
			if l, e := Slots(n, p); len(l) != 0 || e != api.ErrOrder {
				t.Errorf("%d, %+v: %v, %d", n, p, l, e)
			}
		}
	}
}

// P15.3: each place is told once, behind those that it comes from, which are of its group and are no PictureBs; an I comes from none, a P from one, a B from two.
func TestSlotsOnceAndBehind(t *testing.T) {
	for _, p := range plans(0) {
		for n := 1; n <= 200; n++ {
			kinds := make(map[int]int)
			for _, s := range told(t, n, p) {
				if _, twice := kinds[s.Display]; twice || s.Display < 0 || s.Display >= n {
					t.Fatalf("%d, %+v: %v", n, p, s)
				}
				if (s.Past != -1) != (s.Kind != 0) || (s.Next != -1) != (s.Kind == 2) || (s.Kind == 0) != (s.Display%p.Group == 0) {
					t.Fatalf("%d, %+v: %v", n, p, s)
				}
				for _, from := range []int{s.Past, s.Next} {
					kind, behind := kinds[from]
					if from != -1 && (!behind || kind == 2 || from/p.Group != s.Display/p.Group) {
						t.Fatalf("%d, %+v: %v comes from %d", n, p, s, from)
					}
				}
				kinds[s.Display] = s.Kind
			}
			if len(kinds) != n {
				t.Fatalf("%d, %+v: %v", n, p, kinds)
			}
		}
	}
}

// P15.3: at most Between and 2 are held. In fact it is one, and two where a picture is told ahead of a PictureB.
func TestSlotsHeld(t *testing.T) {
	for _, p := range plans(0) {
		for n := 1; n <= 200; n++ {
			l := told(t, n, p)
			d := displays(l)
			places, most, e := Show(d)
			if e != api.OK || len(places) != n || most > p.Between+2 {
				t.Fatalf("%d, %+v: %v, %d, %d", n, p, places, most, e)
			}
			want := 1
			if slices.ContainsFunc(l, func(s api.Slot) bool { return s.Kind == 2 }) {
				want = 2
			}
			if most != want {
				t.Fatalf("%d, %+v: %d", n, p, most)
			}
			for place, at := range places {
				if d[at] != place {
					t.Fatalf("%d, %+v: %v", n, p, places)
				}
			}
		}
	}
}

// R4, R5: what is answered is new memory, spare room too, and each call answers the same.
func TestSlotsApart(t *testing.T) {
	p := api.Plan{Group: 7, Between: 2, Quality: 3}
	l := told(t, 33, p)
	other := told(t, 33, p)
	for at := range l[:cap(l)] {
		l[:cap(l)][at] = api.Slot{Display: -5, Kind: -5, Past: -5, Next: -5}
	}
	if !slices.Equal(other, slots(33, p)) || !slices.Equal(told(t, 33, p), other) {
		t.Errorf("%v", other)
	}
}

// R4: slots may be left at each place, and gone through again.
func TestSlotsLeft(t *testing.T) {
	p := api.Plan{Group: 7, Between: 2}
	through := film(25, p)
	for many := 1; many <= 25; many++ {
		var l []api.Slot
		for s := range through {
			l = append(l, s)
			if len(l) == many {
				break
			}
		}
		if !slices.Equal(l, slots(25, p)[:many]) {
			t.Errorf("%d: %v", many, l)
		}
	}
}
