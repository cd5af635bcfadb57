package bucket

import (
	"math"
	"slices"
	"testing"

	"clapboard/api"
)

// numbers are numbers one behind the other that look like chance, and are the same in each run.
type numbers uint64

func (n *numbers) next() uint64 {
	*n = *n*6364136223846793005 + 1442695040888963407
	return uint64(*n >> 11)
}

// below is a number from 0 to m - 1.
func (n *numbers) below(m int) int { return int(n.next() % uint64(m)) }

// bytes are so many bytes.
func (n *numbers) bytes(many int) []byte {
	b := make([]byte, many)
	for i := range b {
		b[i] = byte(n.next())
	}
	return b
}

// held is a sequence of 8 by 8 with a rate and a buffer.
func held(rate, buffer int) api.Sequence {
	return api.Sequence{W: 8, H: 8, Rate: rate, Buffer: buffer}
}

// far are numbers that nothing has here, both ends of an int among them, and some that look like others when their highest bits are dropped.
var far = []int{
	math.MinInt, math.MinInt + 1, math.MinInt + 8, math.MinInt64/2 - 1, -1<<32 - 8, -1 << 32, -1<<32 + 1, -1<<32 + 8, math.MinInt32, -1 << 30, -1 << 24, -256, -248, -64, -8, -2, -1,
	1<<30 + 1, math.MaxInt32, math.MaxInt32 + 1, 1<<32 - 1, 1 << 32, 1<<32 + 1, 1<<32 + 8, 1<<40 + 8, math.MaxInt64/2 + 1, math.MaxInt - 7, math.MaxInt - 1, math.MaxInt,
}

// edges are sequences whose Rate and Buffer are the least, and the greatest, that may be, and such as are beside them.
func edges() []api.Sequence {
	var l []api.Sequence
	for _, rate := range []int{1, 2, 100, 1<<24 - 1, 1 << 24} {
		for _, buffer := range []int{rate, rate + 1, 1<<24 + 1, 1<<30 - 1, 1 << 30} {
			l = append(l, held(rate, buffer))
		}
	}
	return append(l, api.Sequence{W: 64, H: 64, Rate: 1, Buffer: 1}, api.Sequence{W: 8, H: 64, Rate: 5, Buffer: 9}, api.Sequence{W: 64, H: 8, Rate: 1 << 24, Buffer: 1 << 30})
}

// wrongSequences are sequences that may not be, each by one number alone: one beyond what may be, and further.
func wrongSequences() []api.Sequence {
	l := []api.Sequence{{}, {W: 8, H: 8}, {Rate: 1, Buffer: 1}}
	for _, n := range append([]int{0, 1, 4, 7, 9, 12, 15, 17, 63, 65, 68, 72, 128}, far...) {
		l = append(l, api.Sequence{W: n, H: 8, Rate: 100, Buffer: 1000}, api.Sequence{W: 8, H: n, Rate: 100, Buffer: 1000})
	}
	for _, n := range append([]int{0, 1<<24 + 1}, far...) {
		l = append(l, held(n, 1<<30), held(n, n))
	}
	for _, n := range append([]int{0, 99}, far...) {
		l = append(l, held(100, n))
	}
	return append(l, held(2, 1), held(1<<24, 1<<24-1), held(1<<24, 1))
}

// full is what is held ahead of the picture at a place, told at once, and not picture by picture: what came, less what went, since the place where the buffer was full last; that is the place from which on it is the least.
func full(s api.Sequence, sizes []int, at int) int {
	least, since := s.Buffer, s.Buffer
	for k := at - 1; k >= 0; k-- {
		since += s.Rate - sizes[k]
		least = min(least, since)
	}
	return least
}

// plainFill is what Fill should answer where the sequence may be, by the chapter's words.
func plainFill(s api.Sequence, sizes []int) ([]int, int, api.Errno) {
	var l []int
	for at, size := range sizes {
		l = append(l, full(s, sizes, at))
		if size < 0 || size > l[at] {
			return l, at, api.ErrBucket
		}
	}
	return l, -1, api.OK
}

// checkFill holds Fill to what is held, and to a place and an error.
func checkFill(t *testing.T, s api.Sequence, sizes, want []int, at int, e api.Errno) {
	t.Helper()
	l, gotAt, gotE := Fill(s, sizes)
	if !slices.Equal(l, want) || gotAt != at || gotE != e {
		t.Fatalf("%+v, %v: %v, %d, %d, not %v, %d, %d", s, sizes, l, gotAt, gotE, want, at, e)
	}
}

// checkFillWords holds Fill to the chapter's words.
func checkFillWords(t *testing.T, s api.Sequence, sizes []int) {
	t.Helper()
	l, at, e := plainFill(s, sizes)
	checkFill(t, s, sizes, l, at, e)
}

// P17.1: the numbers that the chapter names.
func TestNumbers(t *testing.T) {
	if api.ErrHead != 110 || api.ErrStream != 160 || api.ErrBucket != 170 || api.OK != 0 {
		t.Errorf("%d, %d, %d, %d", api.ErrHead, api.ErrStream, api.ErrBucket, api.OK)
	}
}

// P17.1: the chapter's example.
func TestFillExample(t *testing.T) {
	s := held(10, 30)
	checkFill(t, s, []int{25, 12, 5}, []int{30, 15, 13}, -1, api.OK)
	checkFill(t, s, []int{25, 16}, []int{30, 15}, 1, api.ErrBucket)
}

// P17.1: sizes by hand: what is held is more than the buffer, just the buffer, and less; sizes as great as what is held, and one more, at the first place, in the middle and at the end.
func TestFillByHand(t *testing.T) {
	s := held(10, 30)
	for _, c := range []struct {
		sizes, want []int
		at          int
	}{
		{nil, nil, -1}, {[]int{}, nil, -1},
		// A picture of no bytes takes nothing.
		{[]int{0}, []int{30}, -1}, {[]int{0, 0, 0}, []int{30, 30, 30}, -1}, {[]int{30, 0, 0, 0, 0}, []int{30, 10, 20, 30, 30}, -1}, {[]int{25, 0, 25, 0}, []int{30, 15, 25, 10}, -1},
		// More than the buffer, just the buffer, and less would be held.
		{[]int{9, 0}, []int{30, 30}, -1}, {[]int{10, 0}, []int{30, 30}, -1}, {[]int{11, 0}, []int{30, 29}, -1}, {[]int{20, 9, 30}, []int{30, 20, 21}, 2}, {[]int{20, 0, 9, 11}, []int{30, 20, 30, 30}, -1},
		{[]int{12, 10, 8, 0, 0}, []int{30, 28, 28, 30, 30}, -1}, {[]int{12, 10, 7, 0}, []int{30, 28, 28, 30}, -1}, {[]int{12, 10, 9, 0}, []int{30, 28, 28, 29}, -1},
		// As much as is held, and one more: at the first place, in the middle, and at the end.
		{[]int{30}, []int{30}, -1}, {[]int{31}, []int{30}, 0}, {[]int{30, 10, 10}, []int{30, 10, 10}, -1}, {[]int{31, 10, 10}, []int{30}, 0},
		{[]int{30, 11, 10}, []int{30, 10}, 1}, {[]int{30, 10, 11}, []int{30, 10, 10}, 2}, {[]int{25, 15, 5, 15, 1}, []int{30, 15, 10, 15, 10}, -1}, {[]int{25, 15, 5, 16, 1}, []int{30, 15, 10, 15}, 3},
		{[]int{1, 2, 3, 30}, []int{30, 30, 30, 30}, -1}, {[]int{1, 2, 3, 31}, []int{30, 30, 30, 30}, 3},
		// The first place is told where there are several, and nothing behind it.
		{[]int{31, 31, 31}, []int{30}, 0}, {[]int{5, 31, -1}, []int{30, 30}, 1}, {[]int{5, -1, 31}, []int{30, 30}, 1}, {[]int{30, 11, 0, 0, 40}, []int{30, 10}, 1},
		{[]int{-1}, []int{30}, 0}, {[]int{-1, 0, 0}, []int{30}, 0}, {[]int{20, -1, 0}, []int{30, 20}, 1}, {[]int{20, 15, -1}, []int{30, 20, 15}, 2},
	} {
		e := api.OK
		if c.at >= 0 {
			e = api.ErrBucket
		}
		checkFill(t, s, c.sizes, c.want, c.at, e)
	}
}

// P17.1: all short lists of small sizes, below 0 and more than is held among them, with all small rates and buffers.
func TestFillShort(t *testing.T) {
	right, wrong := 0, 0
	for buffer := 1; buffer <= 5; buffer++ {
		for rate := 1; rate <= buffer; rate++ {
			s := held(rate, buffer)
			each(5, buffer+1, func(sizes []int) {
				checkFillWords(t, s, sizes)
				if _, at, _ := plainFill(s, sizes); at < 0 {
					right++
				} else {
					wrong++
				}
			})
		}
	}
	if right < 5000 || wrong < 5000 {
		t.Errorf("%d, %d", right, wrong)
	}
}

// each tries all lists of up to so many sizes, of -1 to most each.
func each(many, most int, try func(sizes []int)) {
	var tell func(sizes []int)
	tell = func(sizes []int) {
		try(sizes)
		if len(sizes) == many {
			return
		}
		for size := -1; size <= most; size++ {
			tell(append(slices.Clone(sizes), size))
		}
	}
	tell(nil)
}

// P17.1: long lists, with all edges of rates and buffers: what is held falls, and rises, up to the buffer and down to nothing.
func TestFillAsTheWords(t *testing.T) {
	n := numbers(1)
	full, empty, right := 0, 0, 0
	for range 40 {
		for _, s := range edges() {
			var sizes []int
			now := s.Buffer
			for range n.below(60) {
				size := n.below(min(now, 2*s.Rate) + 1)
				switch n.below(12) {
				case 0:
					size = now
				case 1:
					size = 0
				case 2:
					size = min(now, s.Rate)
				}
				sizes = append(sizes, size)
				now = min(now-size+s.Rate, s.Buffer)
				if now == s.Buffer {
					full++
				}
				if size == now {
					empty++
				}
			}
			checkFillWords(t, s, sizes)
			right++
			if len(sizes) > 0 {
				at := n.below(len(sizes))
				l, _, _ := plainFill(s, sizes)
				sizes[at] = l[at] + 1
				checkFill(t, s, sizes, l[:at+1], at, api.ErrBucket)
				sizes[at] = -1 - n.below(9)
				checkFill(t, s, sizes, l[:at+1], at, api.ErrBucket)
			}
		}
	}
	if full < 1000 || empty < 100 || right < 1000 {
		t.Errorf("%d, %d, %d", full, empty, right)
	}
}

// P17.1: sizes that nothing has, at each place, the least and the greatest int among them.
func TestFillFar(t *testing.T) {
	for _, s := range edges() {
		for many := 1; many <= 6; many++ {
			var want []int
			for range many {
				want = append(want, s.Buffer)
			}
			for at := range many {
				for _, size := range far {
					sizes := make([]int, many)
					sizes[at] = size
					checkFill(t, s, sizes, want[:at+1], at, api.ErrBucket)
					// One behind it is not told.
					for behind := at + 1; behind < many; behind++ {
						sizes[behind] = size
					}
					checkFill(t, s, sizes, want[:at+1], at, api.ErrBucket)
				}
			}
		}
	}
}

// P17.1: the least and the greatest rate and buffer.
func TestFillEdges(t *testing.T) {
	checkFill(t, held(1, 1), []int{1, 1, 0, 1}, []int{1, 1, 1, 1}, -1, api.OK)
	checkFill(t, held(1, 1), []int{1, 2}, []int{1, 1}, 1, api.ErrBucket)
	checkFill(t, held(1, 1<<30), []int{1 << 30, 1, 2}, []int{1 << 30, 1, 1}, 2, api.ErrBucket)
	checkFill(t, held(1, 1<<30), []int{1 << 30, 0, 0, 3}, []int{1 << 30, 1, 2, 3}, -1, api.OK)
	checkFill(t, held(1<<24, 1<<24), []int{1 << 24, 1 << 24, 1}, []int{1 << 24, 1 << 24, 1 << 24}, -1, api.OK)
	checkFill(t, held(1<<24, 1<<24), []int{0, 1<<24 + 1}, []int{1 << 24, 1 << 24}, 1, api.ErrBucket)
	checkFill(t, held(1<<24, 1<<30), []int{0, 1 << 30, 0, 1 << 25, 1}, []int{1 << 30, 1 << 30, 1 << 24, 1 << 25, 1 << 24}, -1, api.OK)
	checkFill(t, held(1<<24, 1<<30), []int{0, 1<<30 + 1}, []int{1 << 30, 1 << 30}, 1, api.ErrBucket)
	for _, s := range edges() {
		checkFill(t, s, nil, nil, -1, api.OK)
		checkFill(t, s, []int{s.Buffer, s.Rate, s.Rate}, []int{s.Buffer, s.Rate, s.Rate}, -1, api.OK)
		checkFill(t, s, []int{s.Buffer, s.Rate + 1, s.Rate}, []int{s.Buffer, s.Rate}, 1, api.ErrBucket)
		checkFill(t, s, []int{s.Buffer, 0, 1}, []int{s.Buffer, s.Rate, min(2*s.Rate, s.Buffer)}, -1, api.OK)
	}
}

// P17.1: a sequence that may not be is told ahead of all else, with no place.
func TestFillSequences(t *testing.T) {
	for _, s := range wrongSequences() {
		for _, sizes := range [][]int{nil, {}, {0}, {1, 2, 3}, {-1}, {math.MaxInt}, {0, math.MinInt}} {
			checkFill(t, s, sizes, nil, -1, api.ErrHead)
		}
	}
}

// P17.1: there may be more sizes than a film has pictures.
func TestFillMany(t *testing.T) {
	sizes := make([]int, 300000)
	want := make([]int, len(sizes))
	for at := range sizes {
		sizes[at], want[at] = 10, 30
	}
	sizes[0] = 17
	for at := 1; at < len(want); at++ {
		want[at] = 23
	}
	checkFill(t, held(10, 30), sizes, want, -1, api.OK)
	sizes[299999] = 24
	checkFill(t, held(10, 30), sizes, want, 299999, api.ErrBucket)
	sizes[201] = 24
	checkFill(t, held(10, 30), sizes, want[:202], 201, api.ErrBucket)
}

// P17.1, R4: sizes stay as they were, spare room too; what is answered shares no memory with them, nor with another answer.
func TestFillKeeps(t *testing.T) {
	n := numbers(2)
	s := held(10, 30)
	for many := range 60 {
		sizes := make([]int, many+5)
		for at := range sizes {
			sizes[at] = n.below(16)
		}
		was := slices.Clone(sizes)
		want, at, e := plainFill(s, sizes[:many])
		a, _, _ := Fill(s, sizes[:many])
		b, _, _ := Fill(s, sizes[:many])
		clear(b[:cap(b)])
		if !slices.Equal(sizes, was) || !slices.Equal(a, want) {
			t.Fatalf("%d: the sizes have changed, or answers share memory", many)
		}
		clear(sizes)
		if !slices.Equal(a, want) {
			t.Fatalf("%d: what is held shares memory with the sizes", many)
		}
		copy(sizes, was)
		clear(a[:cap(a)])
		if !slices.Equal(sizes, was) {
			t.Fatalf("%d: what is held shares memory with the sizes", many)
		}
		checkFill(t, s, sizes[:many], want, at, e)
	}
}

// P17.3: a buffer that holds the greatest picture, of a rate as great, never has too little; and of a rate that is less it may.
func TestNeverTooLittle(t *testing.T) {
	n := numbers(3)
	for range 3000 {
		sizes := make([]int, 1+n.below(200))
		most := 1 + n.below(1<<(1+n.below(24)))
		for at := range sizes {
			sizes[at] = n.below(most + 1)
		}
		sizes[n.below(len(sizes))] = most
		for _, s := range []api.Sequence{held(most, most), held(most, most+n.below(1<<20)), held(1<<24, 1<<24), held(most, 1<<30)} {
			l, at, e := Fill(s, sizes)
			if at != -1 || e != api.OK || len(l) != len(sizes) || slices.Min(l) < most || slices.Max(l) > s.Buffer {
				t.Fatalf("%+v, %v: %v, %d, %d", s, sizes, l, at, e)
			}
		}
	}
	checkFill(t, held(9, 10), []int{10, 10}, []int{10, 9}, 1, api.ErrBucket)
	checkFill(t, held(10, 10), []int{10, 10, 11}, []int{10, 10, 10}, 2, api.ErrBucket)
}
