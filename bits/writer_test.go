package bits

import (
	"bytes"
	"math"
	"strconv"
	"strings"
	"testing"

	"clapboard/api"
)

// shown is all that w has, bit by bit, as a text.
func shown(w *Writer) string {
	var s strings.Builder
	for _, b := range w.Bytes() {
		s.WriteString(strconv.FormatUint(uint64(b)|256, 2)[1:])
	}
	return s.String()[:w.Many()]
}

// packed is a text of bits as bytes, with bits 0 up to a byte's end.
func packed(s string) []byte {
	s += strings.Repeat("0", (8-len(s)%8)%8)
	var b []byte
	for i := 0; i < len(s); i += 8 {
		n, _ := strconv.ParseUint(s[i:i+8], 2, 8)
		b = append(b, byte(n))
	}
	return b
}

func zeros(n int) string { return strings.Repeat("0", n) }

// P1.1: the lowest bit of a number alone is written.
func TestWriterBit(t *testing.T) {
	w := &Writer{}
	for _, b := range []int{0, 1, 2, 3, -1, -2, math.MaxInt, math.MinInt, 1} {
		w.Bit(b)
	}
	if s := shown(w); s != "010110101" {
		t.Errorf("bits %s", s)
	}
}

// P1.1: Fixed writes the lowest bits, and nothing of a count that is not 0 to 32.
func TestWriterFixed(t *testing.T) {
	for _, c := range []struct {
		n, bits int
		want    string
	}{
		{5, 3, "101"},
		{5, 5, "00101"},
		{13, 3, "101"},
		{-1, 4, "1111"},
		{-2, 2, "10"},
		{1, 1, "1"},
		{1, 0, ""},
		{math.MaxInt, 0, ""},
		{1, 32, zeros(31) + "1"},
		{1 << 31, 32, "1" + zeros(31)},
		{1 << 32, 32, zeros(32)},
		{-1, 32, strings.Repeat("1", 32)},
		{math.MinInt, 32, zeros(32)},
		{math.MaxInt, 31, strings.Repeat("1", 31)},
		{1, 33, ""},
		{1, -1, ""},
		{-1, math.MaxInt, ""},
		{-1, math.MinInt, ""},
	} {
		w := &Writer{}
		w.Fixed(c.n, c.bits)
		if s := shown(w); s != c.want {
			t.Errorf("Fixed(%d, %d): %q, want %q", c.n, c.bits, s, c.want)
		}
	}
}

// P1.1: Whole clamps, and writes k - 1 bits 0 and the k bits of n and 1.
func TestWriterWhole(t *testing.T) {
	most := zeros(31) + "1" + zeros(31)
	for _, c := range []struct {
		n    int
		want string
	}{
		{0, "1"},
		{1, "010"},
		{2, "011"},
		{3, "00100"},
		{6, "00111"},
		{7, "0001000"},
		{254, zeros(7) + "11111111"},
		{255, zeros(8) + "100000000"},
		{1<<30 - 2, zeros(29) + strings.Repeat("1", 30)},
		{1<<30 - 1, zeros(30) + "1" + zeros(30)},
		{api.MaxNumber - 1, zeros(30) + strings.Repeat("1", 31)},
		{api.MaxNumber, most},
		{api.MaxNumber + 1, most},
		{1 << 40, most},
		{math.MaxInt, most},
		{-1, "1"},
		{math.MinInt, "1"},
	} {
		w := &Writer{}
		w.Whole(c.n)
		if s := shown(w); s != c.want {
			t.Errorf("Whole(%d): %s, want %s", c.n, s, c.want)
		}
	}
}

// P1.1: Signed is Whole of 2n - 1, or of -2n.
func TestWriterSigned(t *testing.T) {
	for _, c := range []struct{ n, whole int }{
		{0, 0},
		{1, 1},
		{-1, 2},
		{2, 3},
		{-2, 4},
		{1 << 20, 1<<21 - 1},
		{-1 << 20, 1 << 21},
		{1<<30 - 1, 1<<31 - 3},
		{1 - 1<<30, 1<<31 - 2},
		{1 << 30, 1<<31 - 1},
		{1<<30 + 1, 1<<31 - 1},
		{math.MaxInt, 1<<31 - 1},
		{-1 << 30, 1 << 31},
		{-1<<30 - 1, 1 << 31},
		{math.MinInt, 1 << 31},
	} {
		got, want := &Writer{}, &Writer{}
		got.Signed(c.n)
		want.Whole(c.whole)
		if shown(got) != shown(want) {
			t.Errorf("Signed(%d): %s, want Whole(%d): %s", c.n, shown(got), c.whole, shown(want))
		}
	}
	w := &Writer{}
	w.Signed(-1 << 30)
	if s := shown(w); s != zeros(31)+"1"+zeros(31) {
		t.Errorf("Signed(-2^30): %s: Whole clamps it", s)
	}
}

// P1.1: End writes a bit 1, and bits 0 up to a byte's end, wherever it stands.
func TestWriterEnd(t *testing.T) {
	for n := range 17 {
		w := &Writer{}
		for range n {
			w.Bit(1)
		}
		w.End()
		want := strings.Repeat("1", n+1)
		want += zeros((8 - len(want)%8) % 8)
		if s := shown(w); s != want {
			t.Errorf("%d bits and End: %s, want %s", n, s, want)
		}
	}
	w := &Writer{}
	w.End()
	w.Bit(1)
	w.End()
	if b := w.Bytes(); !bytes.Equal(b, []byte{128, 192}) || w.Many() != 16 {
		t.Errorf("End twice: %v, %d bits", b, w.Many())
	}
}

// P1.1: Bytes fills up with bits 0, Many does not count these.
func TestWriterBytesAndMany(t *testing.T) {
	w := &Writer{}
	if len(w.Bytes()) != 0 || w.Many() != 0 {
		t.Errorf("nothing written: %v, %d bits", w.Bytes(), w.Many())
	}
	for n := 1; n <= 20; n++ {
		w.Bit(1)
		want := packed(strings.Repeat("1", n))
		if !bytes.Equal(w.Bytes(), want) || w.Many() != n {
			t.Errorf("%d bits: %v, %d", n, w.Bytes(), w.Many())
		}
	}
}

// P1.1, R4: what Bytes answers is in memory of its own, spare room too.
func TestWriterBytesShareNothing(t *testing.T) {
	w := &Writer{}
	w.Fixed(5, 4)
	a, b := w.Bytes(), w.Bytes()
	_ = append(a, 99)
	a[0] = 255
	w.Fixed(15, 4)
	w.Fixed(7, 8)
	if !bytes.Equal(b, []byte{80}) || !bytes.Equal(w.Bytes(), []byte{95, 7}) {
		t.Errorf("%v, %v", b, w.Bytes())
	}
	whole := w.Bytes()
	for i := range whole[:cap(whole)] {
		whole[:cap(whole)][i] = 1
	}
	w.Fixed(9, 8)
	if !bytes.Equal(w.Bytes(), []byte{95, 7, 9}) {
		t.Errorf("%v", w.Bytes())
	}
}

// P1.1: of no writer there is nothing.
func TestNoWriter(t *testing.T) {
	var w *Writer
	w.Bit(1)
	w.Fixed(1, 3)
	w.Fixed(1, 99)
	w.Whole(9)
	w.Signed(-9)
	w.End()
	if len(w.Bytes()) != 0 || w.Many() != 0 {
		t.Errorf("%v, %d", w.Bytes(), w.Many())
	}
}

// P1.1: the chapter's example.
func TestWriterExample(t *testing.T) {
	w := &Writer{}
	w.Whole(0)
	w.Whole(3)
	w.Signed(-1)
	w.End()
	if b := w.Bytes(); !bytes.Equal(b, []byte{145, 192}) {
		t.Errorf("%v", b)
	}
}
