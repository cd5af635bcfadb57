package bits

import (
	"bytes"
	"math"
	"strings"
	"testing"

	"clapboard/api"
)

// reading is one call of a reader.
type reading func(r *Reader) int

func bit() reading            { return (*Reader).Bit }
func fixed(bits int) reading  { return func(r *Reader) int { return r.Fixed(bits) } }
func whole(most int) reading  { return func(r *Reader) int { return r.Whole(most) } }
func signed(most int) reading { return func(r *Reader) int { return r.Signed(most) } }
func everyReading() []reading {
	return []reading{bit(), fixed(1), whole(math.MaxInt), signed(math.MaxInt)}
}
func readerOf(s string) *Reader { return New(packed(s)) }

// checkLost: r is lost, and stays so, and answers nothing but 0.
func checkLost(t *testing.T, name string, r *Reader) {
	t.Helper()
	for i, read := range append(everyReading(), fixed(0)) {
		if n := read(r); n != 0 || !r.Lost() || r.Done() != api.ErrBits {
			t.Errorf("%s: call %d of a reader that is lost: %d, %v, %d", name, i, n, r.Lost(), r.Done())
		}
	}
}

// P1.2: bits come from the first one on, the highest of a byte first.
func TestReaderBit(t *testing.T) {
	want := "1010011100000001"
	r := readerOf(want)
	for i := range len(want) {
		if n := r.Bit(); n != int(want[i]-'0') || r.Lost() {
			t.Errorf("bit %d: %d, %v", i, n, r.Lost())
		}
	}
	if n := r.Bit(); n != 0 || !r.Lost() {
		t.Errorf("behind the last: %d, %v", n, r.Lost())
	}
	checkLost(t, "Bit behind the end", r)
}

// P1.2: what single calls answer, and whether the reader is lost then.
func TestReaderNumbers(t *testing.T) {
	most := zeros(31) + "1" + zeros(31)
	over := zeros(31) + "1" + zeros(30) + "1"
	far := zeros(31) + strings.Repeat("1", 32)
	for i, c := range []struct {
		bits string
		read reading
		want int
		lost bool
	}{
		{"10100000", fixed(3), 5, false},
		{"", fixed(0), 0, false},
		{"11111111", fixed(0), 0, false},
		{"11111111", fixed(8), 255, false},
		{"11111111", fixed(9), 0, true},
		{strings.Repeat("1", 32), fixed(32), 1<<32 - 1, false},
		{"1" + zeros(31), fixed(32), 1 << 31, false},
		{strings.Repeat("1", 40), fixed(33), 0, true},
		{"11111111", fixed(-1), 0, true},
		{"11111111", fixed(math.MinInt), 0, true},
		{"11111111", fixed(math.MaxInt), 0, true},
		{"", fixed(1), 0, true},
		{"", fixed(33), 0, true},
		{"", bit(), 0, true},

		{"1", whole(0), 0, false},
		{"1", whole(-1), 0, true},
		{"1", whole(math.MinInt), 0, true},
		{"010", whole(1), 1, false},
		{"010", whole(0), 0, true},
		{"00100", whole(3), 3, false},
		{"00100", whole(2), 0, true},
		{"00100", whole(math.MaxInt), 3, false},
		{"", whole(9), 0, true},
		{"00000001", whole(math.MaxInt), 0, true},
		{zeros(8), whole(math.MaxInt), 0, true},
		{zeros(30) + strings.Repeat("1", 31), whole(api.MaxNumber), api.MaxNumber - 1, false},
		{most, whole(api.MaxNumber), api.MaxNumber, false},
		{most, whole(api.MaxNumber - 1), 0, true},
		{over, whole(api.MaxNumber), 0, true},
		{over, whole(api.MaxNumber + 1), api.MaxNumber + 1, false},
		{far, whole(math.MaxInt), 1<<32 - 2, false},
		{zeros(31) + strings.Repeat("1", 25), whole(math.MaxInt), 0, true},
		{"0" + most + "0", whole(math.MaxInt), 0, true},
		{zeros(32) + strings.Repeat("1", 40), whole(math.MaxInt), 0, true},
		{zeros(72), whole(9), 0, true},

		{"1", signed(0), 0, false},
		{"1", signed(-1), 0, true},
		{"010", signed(1), 1, false},
		{"010", signed(0), 0, true},
		{"010", signed(-1), 0, true},
		{"011", signed(1), -1, false},
		{"011", signed(0), 0, true},
		{"011", signed(-1), 0, true},
		{"00100", signed(2), 2, false},
		{"00100", signed(1), 0, true},
		{"00101", signed(2), -2, false},
		{"00101", signed(1), 0, true},
		{"00101", signed(-2), 0, true},
		{"00101", signed(math.MinInt), 0, true},
		{"00101", signed(math.MinInt + 1), 0, true},
		{"00101", signed(math.MaxInt), -2, false},
		{most, signed(1 << 30), 1 << 30, false},
		{most, signed(1<<30 - 1), 0, true},
		{over, signed(1 << 30), -1 << 30, false},
		{over, signed(1<<30 - 1), 0, true},
		{far, signed(math.MaxInt), 1 - 1<<31, false},
		{far, signed(1<<31 - 2), 0, true},
		{zeros(32) + strings.Repeat("1", 40), signed(math.MaxInt), 0, true},
		{"", signed(9), 0, true},
	} {
		r := readerOf(c.bits)
		if n := c.read(r); n != c.want || r.Lost() != c.lost {
			t.Errorf("%d: %d, %v, want %d, %v", i, n, r.Lost(), c.want, c.lost)
		}
		if c.lost {
			checkLost(t, c.bits, r)
		}
	}
}

// P1.2: numbers follow one another without a gap.
func TestReaderGoesOn(t *testing.T) {
	r := readerOf("00100" + "1" + "011" + "10110" + "0" + "1" + "00000000")
	if a, b, c, d, e := r.Whole(3), r.Whole(0), r.Signed(1), r.Fixed(5), r.Bit(); a != 3 || b != 0 || c != -1 || d != 22 || e != 0 || r.Lost() {
		t.Errorf("%d, %d, %d, %d, %d, %v", a, b, c, d, e, r.Lost())
	}
	if r.Done() != api.ErrBits {
		t.Errorf("a byte 0 behind: %d", r.Done())
	}
}

// P1.2: a reader that is lost stays so, though its bytes would go on.
func TestReaderStaysLost(t *testing.T) {
	for i, read := range []reading{fixed(33), fixed(-1), whole(-1), signed(-1)} {
		r := readerOf("1111" + "1000" + "10000000")
		if n := read(r); n != 0 || !r.Lost() {
			t.Errorf("%d: %d, %v", i, n, r.Lost())
		}
		checkLost(t, "bytes go on", r)
	}
	r := readerOf(zeros(7) + "1" + "10000000")
	if r.Whole(9); r.Done() != api.ErrBits || r.Bit() != 0 {
		t.Errorf("lost within a number: %d", r.Done())
	}
}

// endsAt tells whether what is behind place at of the bits is what End writes.
func endsAt(bits string, at int) bool {
	rest := bits[at:]
	return len(rest) >= 1 && len(rest) <= 8 && rest == "1"+zeros(len(rest)-1)
}

// P1.2: Done, at each place of each two bytes.
func TestReaderDone(t *testing.T) {
	for n := range 1 << 16 {
		w := &Writer{}
		w.Fixed(n, 16)
		bits := shown(w)
		r := New(w.Bytes())
		for at := range 17 {
			want := api.ErrBits
			if endsAt(bits, at) {
				want = api.OK
			}
			if e := r.Done(); e != want {
				t.Fatalf("%s at %d: %d, want %d", bits, at, e, want)
			}
			if at < 16 {
				r.Bit()
			}
		}
	}
}

// P1.2: Done, of bytes of which nothing is read.
func TestReaderDoneAtOnce(t *testing.T) {
	for i, c := range []struct {
		b    []byte
		want api.Errno
	}{
		{nil, api.ErrBits},
		{[]byte{}, api.ErrBits},
		{[]byte{128}, api.OK},
		{[]byte{0}, api.ErrBits},
		{[]byte{129}, api.ErrBits},
		{[]byte{64}, api.ErrBits},
		{[]byte{128, 0}, api.ErrBits},
		{[]byte{128, 128}, api.ErrBits},
		{[]byte{0, 128}, api.ErrBits},
	} {
		if e := New(c.b).Done(); e != c.want {
			t.Errorf("%d: %d, want %d", i, e, c.want)
		}
	}
}

// P1.2, R3: Done reads nothing, and no reader is lost by it.
func TestReaderDoneChangesNothing(t *testing.T) {
	r := readerOf("11000000")
	if r.Done() != api.ErrBits || r.Done() != api.ErrBits || r.Lost() || r.Bit() != 1 {
		t.Error("an error of Done has changed the reader")
	}
	if r.Done() != api.OK || r.Done() != api.OK || r.Lost() || r.Fixed(7) != 64 {
		t.Error("an OK of Done has changed the reader")
	}
	if r.Lost() || r.Done() != api.ErrBits {
		t.Error("behind the end")
	}
}

// P1.2, R1: of no reader there are 0, ErrArg and true.
func TestNoReader(t *testing.T) {
	var r *Reader
	for i, read := range append(everyReading(), fixed(-1), whole(-1), signed(-1)) {
		if n := read(r); n != 0 {
			t.Errorf("%d: %d", i, n)
		}
	}
	if r.Done() != api.ErrArg || !r.Lost() {
		t.Errorf("%d, %v", r.Done(), r.Lost())
	}
}

// R1: a reader that is made by hand has no bytes.
func TestReaderMadeByHand(t *testing.T) {
	for i, read := range everyReading() {
		r := &Reader{}
		if r.Lost() || r.Done() != api.ErrBits {
			t.Errorf("%d: %v, %d", i, r.Lost(), r.Done())
		}
		if n := read(r); n != 0 || !r.Lost() {
			t.Errorf("%d: %d, %v", i, n, r.Lost())
		}
	}
}

// R4: a reader neither keeps the bytes that it is given nor changes them.
func TestReaderKeepsNothing(t *testing.T) {
	room := []byte{165, 128, 7}
	r := New(room[:2])
	room[0], room[1] = 0, 0
	if n := r.Fixed(8); n != 165 || r.Done() != api.OK {
		t.Errorf("%d, %d", n, r.Done())
	}
	given := []byte{165, 128, 7}
	r = New(given[:2])
	for range 20 {
		r.Whole(math.MaxInt)
	}
	if !bytes.Equal(given, []byte{165, 128, 7}) {
		t.Errorf("%v", given)
	}
}

// R5: two readers of the same bytes go apart.
func TestReadersApart(t *testing.T) {
	b := []byte{170, 128}
	r, s := New(b), New(b)
	r.Fixed(33)
	if n := s.Fixed(8); n != 170 || s.Done() != api.OK || !r.Lost() {
		t.Errorf("%d, %d, %v", n, s.Done(), r.Lost())
	}
}
