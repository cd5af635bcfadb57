package head

import (
	"bytes"
	"testing"

	"clapboard/api"
)

// refusesOpened holds Opened to its error, beside which there is no sequence (R2).
func refusesOpened(t *testing.T, b []byte) {
	t.Helper()
	if s, e := Opened(b); s != (api.Sequence{}) || e != api.ErrHead {
		t.Errorf("Opened(%v): %v, %d", b, s, e)
	}
}

// P11.2: bytes by hand, the chapter's example ahead; the edges of each number.
func TestOpenByHand(t *testing.T) {
	for _, c := range []struct {
		s api.Sequence
		b []byte
	}{
		{api.Sequence{W: 8, H: 16, Rate: 300, Buffer: 1000}, []byte{8, 16, 0, 0, 1, 44, 0, 0, 3, 232}},
		{api.Sequence{W: 8, H: 8, Rate: 1, Buffer: 1}, []byte{8, 8, 0, 0, 0, 1, 0, 0, 0, 1}},
		{api.Sequence{W: 64, H: 64, Rate: 1 << 24, Buffer: 1 << 30}, []byte{64, 64, 1, 0, 0, 0, 64, 0, 0, 0}},
		{api.Sequence{W: 56, H: 24, Rate: 1 << 24, Buffer: 1 << 24}, []byte{56, 24, 1, 0, 0, 0, 1, 0, 0, 0}},
		{api.Sequence{W: 24, H: 56, Rate: 0x00FEDCBA, Buffer: 0x3FEDCBA9}, []byte{24, 56, 0, 0xFE, 0xDC, 0xBA, 0x3F, 0xED, 0xCB, 0xA9}},
		{api.Sequence{W: 32, H: 40, Rate: 0x00010203, Buffer: 0x04050607}, []byte{32, 40, 0, 1, 2, 3, 4, 5, 6, 7}},
		{api.Sequence{W: 16, H: 48, Rate: 255, Buffer: 256}, []byte{16, 48, 0, 0, 0, 255, 0, 0, 1, 0}},
		{api.Sequence{W: 16, H: 48, Rate: 65535, Buffer: 65536}, []byte{16, 48, 0, 0, 255, 255, 0, 1, 0, 0}},
	} {
		if b, e := Open(c.s); !bytes.Equal(b, c.b) || e != api.OK {
			t.Errorf("Open(%v): %v, %d", c.s, b, e)
		}
		if s, e := Opened(c.b); s != c.s || e != api.OK {
			t.Errorf("Opened(%v): %v, %d", c.b, s, e)
		}
	}
}

// P11.2, P11.4: a sequence that is written is read as it was.
func TestOpenedIsWhatWasOpen(t *testing.T) {
	for _, s := range someSequences() {
		b, e := Open(s)
		if !bytes.Equal(b, tenOf(s)) || e != api.OK {
			t.Fatalf("Open(%v): %v, %d", s, b, e)
		}
		if x, e := Opened(b); x != s || e != api.OK {
			t.Fatalf("Opened(%v): %v, %d; not %v", b, x, e, s)
		}
	}
}

// P11.2, P11.4: sequences that look like chance, of numbers of all lengths.
func TestOpenMany(t *testing.T) {
	n := numbersOf(11)
	for range 100000 {
		s := api.Sequence{W: 8 * (1 + n.below(8)), H: 8 * (1 + n.below(8)), Rate: 1 + n.below(1<<24)>>n.below(24)}
		s.Buffer = s.Rate + n.below(1<<30-s.Rate+1)>>n.below(30)
		b, e := Open(s)
		if !bytes.Equal(b, tenOf(s)) || e != api.OK {
			t.Fatalf("Open(%v): %v, %d", s, b, e)
		}
		if x, e := Opened(b); x != s || e != api.OK {
			t.Fatalf("Opened(%v): %v, %d; not %v", b, x, e, s)
		}
	}
}

// P11.2: of each two first bytes just those are opened that are sides.
func TestOpenedEachSides(t *testing.T) {
	for w := range 256 {
		for h := range 256 {
			want := api.Sequence{W: w, H: h, Rate: 300, Buffer: 1000}
			b := ten(byte(w), byte(h), 300, 1000)
			if !sequenceMayBe(want) {
				refusesOpened(t, b)
			} else if s, e := Opened(b); s != want || e != api.OK {
				t.Errorf("Opened(%v): %v, %d", b, s, e)
			}
		}
	}
}

// P11.2: bytes that are too few or too many, none among them, with and without a sequence ahead.
func TestOpenedOfOtherLengths(t *testing.T) {
	whole := tenOf(api.Sequence{W: 8, H: 16, Rate: 300, Buffer: 1000})
	refusesOpened(t, nil)
	for many := range 300 {
		b := append(bytes.Clone(whole), make([]byte, 300)...)[:many]
		if many != 10 {
			refusesOpened(t, b)
		}
	}
	refusesOpened(t, append([]byte{0}, whole...))
	refusesOpened(t, append(bytes.Clone(whole), whole...))
	refusesOpened(t, whole[1:])
}

// P11.2: ten bytes whose numbers are no sequence's: Rate and Buffer beyond their edges, beside one another, and the highest of each four bytes at 128 and 255.
func TestOpenedOfNoSequence(t *testing.T) {
	refusesOpened(t, make([]byte, 10))
	refusesOpened(t, bytes.Repeat([]byte{8}, 10))
	refusesOpened(t, bytes.Repeat([]byte{255}, 10))
	for _, c := range []struct{ rate, buffer uint32 }{
		{0, 0}, {0, 1}, {0, 1 << 30},
		{1, 0}, {2, 1}, {300, 299}, {1 << 24, 1<<24 - 1}, {1 << 24, 0},
		{1<<24 + 1, 1<<24 + 1}, {1<<24 + 1, 1 << 30}, {1 << 25, 1 << 30}, {1 << 30, 1 << 30},
		{1, 1<<30 + 1}, {1, 1<<30 + 256}, {1 << 24, 1<<30 + 1}, {1<<24 + 1, 1<<30 + 1},
		{1, 1<<31 - 1}, {1<<31 - 1, 1<<31 - 1}, {1<<31 - 1, 1 << 30},
		{1, 1 << 31}, {1, 1<<31 + 1}, {1, 0x80FFFFFF}, {1, 255 << 24}, {1, 0xFF000001}, {1, 0xFFFFFFFF}, {1 << 24, 0xFFFFFFFF},
		{1 << 31, 1 << 30}, {1<<31 + 1, 1 << 30}, {1 << 31, 1 << 31}, {0x80FFFFFF, 1 << 30}, {255 << 24, 1 << 30}, {0xFF000001, 1}, {0xFFFFFFFF, 1}, {0xFFFFFFFF, 1 << 30}, {0xFFFFFFFF, 0xFFFFFFFF}, {0x80000001, 0xFF000001},
	} {
		refusesOpened(t, ten(8, 16, c.rate, c.buffer))
	}
}

// P11.2: bytes that look like chance, near to those of a sequence, are opened if they are Open of one, and by no other one's.
func TestOpenedOfAny(t *testing.T) {
	n, opened := numbersOf(12), 0
	for range 200000 {
		want := api.Sequence{W: 4 * n.below(18), H: 4 * n.below(18), Rate: int(uint32(n.next()) >> n.below(33)), Buffer: int(uint32(n.next()) >> n.below(33))}
		b := tenOf(want)
		if !sequenceMayBe(want) {
			refusesOpened(t, b)
			continue
		}
		opened++
		s, e := Opened(b)
		if s != want || e != api.OK {
			t.Fatalf("Opened(%v): %v, %d; not %v", b, s, e, want)
		}
		if again, e := Open(s); !bytes.Equal(again, b) || e != api.OK {
			t.Fatalf("Open(%v): %v, %d; not %v", s, again, e, b)
		}
	}
	if opened < 1000 {
		t.Errorf("only %d were opened", opened)
	}
}

// R4: Open answers new memory in each call, and Opened neither changes nor keeps its bytes, nor those in the spare room.
func TestOpenMemory(t *testing.T) {
	s := api.Sequence{W: 8, H: 16, Rate: 300, Buffer: 1000}
	first, _ := Open(s)
	soil(first)
	if b, e := Open(s); !bytes.Equal(b, tenOf(s)) || e != api.OK {
		t.Errorf("behind another one that was written over: %v, %d", b, e)
	}
	for _, b := range [][]byte{tenOf(s), tenOf(s)[:9], append(tenOf(s), 0), ten(9, 8, 1, 1), {}} {
		in := roomy(b)
		x, e := Opened(in)
		if !untouched(in, b) {
			t.Errorf("Opened(%v) touches it", b)
		}
		soil(in)
		if y, f := Opened(b); x != y || e != f {
			t.Errorf("Opened(%v): %v, %d, and then %v, %d", b, x, e, y, f)
		}
	}
}

// R5: spare room behind the bytes is no part of them.
func TestOpenedSpareRoomIsNotRead(t *testing.T) {
	s := api.Sequence{W: 8, H: 16, Rate: 300, Buffer: 1000}
	refusesOpened(t, tenOf(s)[:9])
	refusesOpened(t, tenOf(s)[:0])
	for _, b := range [][]byte{append(tenOf(s), 7, 7)[:10], append(tenOf(s), 7, 7)[:10:10]} {
		if x, e := Opened(b); x != s || e != api.OK {
			t.Errorf("Opened(%v): %v, %d", b, x, e)
		}
	}
}
