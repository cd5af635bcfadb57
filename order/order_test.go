package order

import (
	"math"
	"testing"

	"clapboard/api"
)

// far are numbers that no plan has, and no list: both ends of an int among them, and such that would do if they were cut to fewer bits.
var far = []int{
	math.MinInt, math.MinInt + 1, math.MinInt + 16, -1<<32 - 1, -1 << 32, -1<<32 + 1, -1<<32 + 2, math.MinInt32, -1 << 16, -1<<16 + 1, -256, -255, -201, -200,
	201, 256, 257, 258, 1 << 16, 1<<16 + 1, math.MaxInt32, 1 << 32, 1<<32 + 1, 1<<32 + 2, 1<<32 + 16, 1 << 33, math.MaxInt - 1, math.MaxInt,
}

// wrongPlans are plans that have one number that may not be, or several.
func wrongPlans() []api.Plan {
	var l []api.Plan
	for _, n := range append([]int{-16, -2, -1, 0, 17, 18, 32, 33, 200}, far...) {
		l = append(l, api.Plan{Group: n}, api.Plan{Group: n, Between: 3, Quality: 20})
	}
	for _, n := range append([]int{-4, -3, -2, -1, 4, 5, 6, 7, 8, 16, 17}, far...) {
		l = append(l, api.Plan{Group: 1, Between: n}, api.Plan{Group: 16, Between: n, Quality: 20})
	}
	for _, n := range append([]int{-21, -20, -2, -1, 21, 22, 32, 52, 200}, far...) {
		l = append(l, api.Plan{Group: 1, Quality: n}, api.Plan{Group: 16, Between: 3, Quality: n})
	}
	return append(l, api.Plan{}, api.Plan{Quality: 21}, api.Plan{Between: 4}, api.Plan{Group: 17, Between: 4, Quality: 21}, api.Plan{Group: -1, Between: -1, Quality: -1})
}

// plans are all that may be, of one quality.
func plans(quality int) []api.Plan {
	var l []api.Plan
	for group := 1; group <= 16; group++ {
		for between := 0; between <= 3; between++ {
			l = append(l, api.Plan{Group: group, Between: between, Quality: quality})
		}
	}
	return l
}

// P15.1: the limits and the error that the chapter names.
func TestNumbers(t *testing.T) {
	if api.MaxGroup != 16 || api.MaxBetween != 3 || api.MaxFrames != 200 || api.MaxQuality != 20 || api.ErrOrder != 150 {
		t.Errorf("%d, %d, %d, %d, %d", api.MaxGroup, api.MaxBetween, api.MaxFrames, api.MaxQuality, api.ErrOrder)
	}
	if api.PictureI != 0 || api.PictureP != 1 || api.PictureB != 2 {
		t.Errorf("%d, %d, %d", api.PictureI, api.PictureP, api.PictureB)
	}
}

// P15.1: each plan that may be.
func TestCheck(t *testing.T) {
	for quality := range 21 {
		for _, p := range plans(quality) {
			if e := Check(p); e != api.OK {
				t.Errorf("%+v: %d", p, e)
			}
		}
	}
}

// P15.1: numbers one beyond what may be, farther, and at both ends of an int, one of them and several.
func TestCheckWrong(t *testing.T) {
	for _, p := range wrongPlans() {
		if e := Check(p); e != api.ErrOrder {
			t.Errorf("%+v: %d", p, e)
		}
	}
}
