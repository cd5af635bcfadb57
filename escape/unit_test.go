package escape

import (
	"bytes"
	"slices"
	"testing"

	"clapboard/api"
)

// same tells whether two lists have the same units; one without bytes may be nil.
func same(a, b [][]byte) bool {
	return slices.EqualFunc(a, b, bytes.Equal)
}

// P2.2, P2.3: ordinary lists, and the edges: no units, units without bytes, units that end as a start begins, or hold one.
func TestJoinAndSplit(t *testing.T) {
	for _, c := range []struct {
		list   [][]byte
		joined []byte
	}{
		{nil, nil},
		{[][]byte{}, nil},
		{[][]byte{{}}, []byte{0, 0, 1}},
		{[][]byte{nil}, []byte{0, 0, 1}},
		{[][]byte{{5}, {}}, []byte{0, 0, 1, 5, 0, 0, 1}},
		{[][]byte{{}, {}, {}}, []byte{0, 0, 1, 0, 0, 1, 0, 0, 1}},
		{[][]byte{{}, {5}}, []byte{0, 0, 1, 0, 0, 1, 5}},
		{[][]byte{{1, 2, 3}, {4, 5}}, []byte{0, 0, 1, 1, 2, 3, 0, 0, 1, 4, 5}},
		{[][]byte{{0}, {0}}, []byte{0, 0, 1, 0, 0, 0, 1, 0}},
		{[][]byte{{0, 0}, {7}}, []byte{0, 0, 1, 0, 0, 3, 0, 0, 1, 7}},
		{[][]byte{{0, 0, 0}, {1}}, []byte{0, 0, 1, 0, 0, 3, 0, 0, 0, 1, 1}},
		{[][]byte{{0, 0, 1}, {0, 1}}, []byte{0, 0, 1, 0, 0, 3, 1, 0, 0, 1, 0, 1}},
		{[][]byte{{1}, {0, 0, 3}}, []byte{0, 0, 1, 1, 0, 0, 1, 0, 0, 3, 3}},
	} {
		if b := Join(c.list); !bytes.Equal(b, c.joined) {
			t.Errorf("Join(%v): %v", c.list, b)
		}
		if l, e := Split(c.joined); !same(l, c.list) || e != api.OK {
			t.Errorf("Split(%v): %v, %d", c.joined, l, e)
		}
	}
}

// P2.2: bytes that are no Join of any list: bytes ahead of the first start, a start that is cut short, a unit that is no Escape; beside the error there is no list (R2).
func TestSplitWrong(t *testing.T) {
	for _, b := range [][]byte{
		{5},
		{0},
		{1},
		{0, 0},
		{0, 1},
		{0, 0, 0},
		{0, 0, 2},
		{0, 0, 3},
		{5, 0, 0, 1},
		{0, 0, 0, 1},
		{5, 0, 0, 1, 6, 0, 0, 1, 7},
		{0, 0, 1, 0, 0},
		{0, 0, 1, 5, 0, 0},
		{0, 0, 1, 5, 0, 0, 1, 0, 0},
		{0, 0, 1, 0, 0, 2},
		{0, 0, 1, 0, 0, 0, 0, 1},
		{0, 0, 1, 5, 0, 0, 0, 0, 1},
		{0, 0, 1, 0, 0, 3, 4},
		{0, 0, 1, 0, 0, 3, 4, 0, 0, 1, 5},
		{0, 0, 1, 5, 0, 0, 1, 0, 0, 3, 4},
	} {
		if l, e := Split(b); len(l) != 0 || e != api.ErrEscape {
			t.Errorf("Split(%v): %v, %d", b, l, e)
		}
	}
}

// joins are all lists that have at most so many bytes when they are joined, by these bytes; units are what they are made of, the shorter ones first.
func joins(units [][]byte, most int) map[string][][]byte {
	all := map[string][][]byte{"": nil}
	last := [][][]byte{nil}
	for len(last) > 0 {
		var longer [][][]byte
		for _, l := range last {
			room := most - len(Join(l)) - len(start)
			for _, u := range units {
				if len(u) > room {
					break
				}
				k := append(slices.Clone(l), u)
				if b := Join(k); len(b) <= most {
					all[string(b)] = k
					longer = append(longer, k)
				}
			}
		}
		last = longer
	}
	return all
}

// P2.2, P2.3: of all short bytes just those are split that are Join of some list, and into that one.
func TestSplitAllShort(t *testing.T) {
	letters := []byte{0, 1, 3, 4}
	from := joins(words(letters, 6), 9)
	for _, b := range words(letters, 9) {
		l, e := Split(b)
		want, ok := from[string(b)]
		if ok && (e != api.OK || !same(l, want)) || !ok && (e != api.ErrEscape || len(l) != 0) {
			t.Fatalf("Split(%v): %v, %d; want %v, %v", b, l, e, want, ok)
		}
	}
}

// P2.3: many units of many lengths are split as they were.
func TestSplitMany(t *testing.T) {
	n := uint32(7)
	draw := func(most uint32) uint32 {
		n = n*1664525 + 1013904223
		return (n >> 16) % most
	}
	list := make([][]byte, 3000)
	for i := range list {
		list[i] = make([]byte, draw(60))
		kinds := 1 + draw(6)
		for j := range list[i] {
			list[i][j] = byte(draw(kinds))
		}
	}
	if l, e := Split(Join(list)); !same(l, list) || e != api.OK {
		t.Errorf("%d units, %d", len(l), e)
	}
}

// R4: Join changes and keeps neither the list nor its units.
func TestJoinMemory(t *testing.T) {
	units := [][]byte{{5}, {}, {0, 0, 1}, {0, 0}}
	var in [][]byte
	for _, u := range units {
		in = append(in, roomy(u))
	}
	b := Join(in[:3])
	soil(b)
	for i, u := range units {
		if !untouched(in[i], u) {
			t.Errorf("Join touches unit %d", i)
		}
	}
	b = Join(in)
	for _, u := range in {
		soil(u)
	}
	if !bytes.Equal(b, Join(units)) {
		t.Error("Join keeps a unit")
	}
}

// R4: Split changes and keeps none of its bytes, and no unit has a share in another one.
func TestSplitMemory(t *testing.T) {
	b := Join([][]byte{{5, 6}, {}, {0, 0, 1}, {7}})
	in := roomy(b)
	l, _ := Split(in)
	for i := range l {
		want, _ := Split(b)
		soil(l[i])
		l[i] = want[i]
		if !same(l, want) || !untouched(in, b) {
			t.Errorf("unit %d is shared", i)
		}
	}
	l, _ = Split(in)
	soil(in)
	if want, _ := Split(b); !same(l, want) {
		t.Error("Split keeps its bytes")
	}
	wrong := []byte{0, 0, 1, 5, 0, 0}
	in = roomy(wrong)
	if Split(in); !untouched(in, wrong) {
		t.Error("Split touches bytes that it refuses")
	}
}

// R5: bytes behind those that are handed in are none of Split's.
func TestSplitSpareRoomIsNotRead(t *testing.T) {
	b := []byte{0, 0, 1, 5, 0, 0, 1, 6}
	if l, e := Split(b[:5]); !same(l, [][]byte{{5, 0}}) || e != api.OK {
		t.Errorf("%v, %d", l, e)
	}
	if l, e := Split(b[:6]); len(l) != 0 || e != api.ErrEscape {
		t.Errorf("%v, %d", l, e)
	}
}
