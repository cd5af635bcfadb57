package bucket

import (
	"bytes"
	"slices"
	"testing"

	"clapboard/api"
)

// checkRight: Check tells nothing against a film.
func checkRight(t *testing.T, s api.Sequence, l [][]byte) {
	t.Helper()
	if at, e := Check(s, l); at != -1 || e != api.OK {
		t.Fatalf("%+v, %v: %d, %d", s, l, at, e)
	}
}

// checkWrong holds Check to a place and an error.
func checkWrong(t *testing.T, s api.Sequence, l [][]byte, at int, e api.Errno) {
	t.Helper()
	if gotAt, gotE := Check(s, l); gotAt != at || gotE != e {
		t.Fatalf("%+v, %v: %d, %d, not %d, %d", s, l, gotAt, gotE, at, e)
	}
}

// otherFulls are fulls that may be, and are not n.
func otherFulls(n int) []int {
	var l []int
	for _, other := range []int{0, 1, 255, 256, 1 << 16, 1 << 24, 1<<30 - 1, 1 << 30, n - 1, n + 1, n ^ 1<<8, n ^ 1<<16, n ^ 1<<24} {
		if other != n && other >= 0 && other <= 1<<30 {
			l = append(l, other)
		}
	}
	return l
}

// P17.2: films by hand, whose Fulls are right, and not.
func TestCheckByHand(t *testing.T) {
	s := held(10, 30)
	l := [][]byte{{0, 5, 0, 0, 0, 0, 0, 0, 0, 30, 1, 2, 3}, {1, 6, 0, 0, 0, 2, 0, 0, 0, 27}, {2, 7, 0, 0, 0, 1, 0, 0, 0, 27, 255}}
	checkRight(t, s, l)
	checkRight(t, s, l[:1])
	// Another rate, or buffer, tells another one.
	checkRight(t, held(11, 30), l[:1])
	checkWrong(t, held(11, 30), l, 1, api.ErrBucket)
	checkWrong(t, held(10, 31), l, 0, api.ErrBucket)
	checkWrong(t, held(10, 12), l, 0, api.ErrBucket)
	// So does a picture of more bytes: the one behind it is wrong.
	longer := slices.Clone(l)
	longer[1] = append(bytes.Clone(l[1]), 9)
	checkWrong(t, s, longer, 2, api.ErrBucket)
	longer[1] = l[1]
	longer[2] = append(bytes.Clone(l[2]), 9, 9, 9)
	checkRight(t, s, longer)
}

// P17.2: the Full of one picture is another, at each place; and of two, of which the first one is told.
func TestCheckFulls(t *testing.T) {
	n := numbers(21)
	for many := 1; many <= 30; many++ {
		s := held(10+n.below(20), 30+n.below(200))
		film := pictures(n.film(many), n.sizes(s, many, 60))
		fulls, _, _ := plainFill(s, sizesOf(film))
		checkRight(t, s, stamped(film, fulls))
		for at := range many {
			for _, other := range otherFulls(fulls[at]) {
				wrong := slices.Clone(fulls)
				wrong[at] = other
				checkWrong(t, s, stamped(film, wrong), at, api.ErrBucket)
				if at < many-1 {
					behind := at + 1 + n.below(many-at-1)
					wrong[behind] = otherFulls(fulls[behind])[n.below(3)]
					checkWrong(t, s, stamped(film, wrong), at, api.ErrBucket)
				}
			}
		}
	}
}

// P17.2: all Fulls wrong: the first one is told; and long films, whose last one alone is wrong.
func TestCheckLong(t *testing.T) {
	n := numbers(22)
	for _, many := range []int{1, 2, 50, 199, 200} {
		s := held(10+n.below(20), 30+n.below(200))
		film := pictures(n.film(many), n.sizes(s, many, 60))
		fulls, _, _ := plainFill(s, sizesOf(film))
		checkRight(t, s, stamped(film, fulls))
		wrong := slices.Clone(fulls)
		wrong[many-1]++
		checkWrong(t, s, stamped(film, wrong), many-1, api.ErrBucket)
		for at := range wrong {
			wrong[at] = fulls[at] + 1
		}
		checkWrong(t, s, stamped(film, wrong), 0, api.ErrBucket)
	}
}

// P17.2: a picture that is more than is held is told ahead of Fulls that are wrong, with its own place, wherever they stand.
func TestCheckTooLittleFirst(t *testing.T) {
	n := numbers(23)
	for many := 2; many <= 20; many++ {
		s := held(10+n.below(9), 20+n.below(40))
		sizes := n.sizes(s, many, 40)
		h := n.film(many)
		for at := range many {
			over := slices.Clone(sizes)
			over[at] = full(s, sizes, at) + 1
			l := pictures(h, over)
			fulls, _, _ := plainFill(s, over)
			told := append(fulls, make([]int, many-len(fulls))...)
			checkWrong(t, s, stamped(l, told), at, api.ErrBucket)
			for other := range many {
				wrong := slices.Clone(told)
				wrong[other]++
				checkWrong(t, s, stamped(l, wrong), at, api.ErrBucket)
			}
		}
	}
}

// P17.2: with the least and the greatest rate and buffer that may be.
func TestCheckEdges(t *testing.T) {
	for _, s := range edges() {
		if s.Buffer < 10 {
			checkWrong(t, s, pictures([]api.Head{{Full: s.Buffer}}, []int{10}), 0, api.ErrBucket)
			continue
		}
		checkRight(t, s, pictures([]api.Head{{Full: s.Buffer}}, []int{10}))
		checkWrong(t, s, pictures([]api.Head{{Full: s.Buffer - 1}}, []int{10}), 0, api.ErrBucket)
		next := min(s.Buffer, s.Buffer-10+s.Rate)
		for _, other := range append(otherFulls(next), next) {
			l := pictures([]api.Head{{Full: s.Buffer}, {Kind: 1, Display: 1, Full: other}}, []int{10, 10})
			if next < 10 || other != next {
				checkWrong(t, s, l, 1, api.ErrBucket)
			} else {
				checkRight(t, s, l)
			}
		}
	}
}

// P17.2, R4: what is checked stays as it was, spare room too.
func TestCheckKeeps(t *testing.T) {
	n := numbers(24)
	for many := 1; many < 40; many++ {
		s := held(10+n.below(20), 30+n.below(200))
		film := pictures(n.film(many), n.sizes(s, many, 60))
		fulls, _, _ := plainFill(s, sizesOf(film))
		for _, wrong := range []int{0, 1} {
			fulls[many/2] += wrong
			l, all := rooms(stamped(film, fulls))
			was := bytes.Clone(all)
			at, _ := Check(s, l)
			if !bytes.Equal(all, was) || at >= 0 != (wrong > 0) {
				t.Fatalf("%d: %d, or the pictures have changed", many, at)
			}
			checkRooms(t, l)
		}
	}
}
