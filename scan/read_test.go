package scan

import (
	"math"
	"strconv"
	"strings"
	"testing"

	"clapboard/api"
	"clapboard/bits"
)

// behind is what stands, in these tests, behind what is to be read: none of it may be read.
const behind = "1011001110001111"

// noNumber is more bits 0 than stand ahead of any number.
var noNumber = strings.Repeat("0", 40)

// readerOf is a reader whose next bits are those of a text, and there it ends: as many bits as a byte lacks are put ahead, and read.
func readerOf(s string) *bits.Reader {
	ahead := (8 - len(s)%8) % 8
	s = strings.Repeat("1", ahead) + s
	var b []byte
	for i := 0; i < len(s); i += 8 {
		n, _ := strconv.ParseUint(s[i:i+8], 2, 8)
		b = append(b, byte(n))
	}
	r := bits.New(b)
	r.Fixed(ahead)
	return r
}

// checkBehind: the reader stands at the bits that are behind, and they are all that is left.
func checkBehind(t *testing.T, name string, r *bits.Reader) {
	t.Helper()
	for i := range len(behind) {
		if n := r.Bit(); n != int(behind[i]-'0') || r.Lost() {
			t.Errorf("%s: bit %d behind it: %d, %v", name, i, n, r.Lost())
			return
		}
	}
	if r.Bit(); !r.Lost() {
		t.Errorf("%s: there is more behind it", name)
	}
}

// checkRead: of the bits the block is read, and nothing behind them.
func checkRead(t *testing.T, name, s string, want api.Block) {
	t.Helper()
	r := readerOf(s + behind)
	if b, e := Read(r); b != want || e != api.OK {
		t.Errorf("%s: %v, %d, want %v", name, b, e, want)
	}
	checkBehind(t, name, r)
}

// checkNone: the bits are no block; they stay read, and nothing behind them is.
func checkNone(t *testing.T, name, s string) {
	t.Helper()
	r := readerOf(s + behind)
	if b, e := Read(r); b != (api.Block{}) || e != api.ErrScan {
		t.Errorf("%s: %v, %d", name, b, e)
	}
	checkBehind(t, name, r)
}

// checkLost: the bits are no block, for the reader gets lost in them, and stays so.
func checkLost(t *testing.T, name, s string) {
	t.Helper()
	r := readerOf(s)
	for range 2 {
		if b, e := Read(r); b != (api.Block{}) || e != api.ErrScan || !r.Lost() {
			t.Errorf("%s: %v, %d, %v", name, b, e, r.Lost())
		}
	}
}

// told is the beginning of a block of so many, of which the first ones stand at the first places.
func told(many, there int) string {
	s := whole(many)
	for i := range there {
		s += whole(0) + signed(100-i)
	}
	return s
}

// P6.2: blocks by hand, an empty one and a full one among them; what stands behind is not read.
func TestReadByHand(t *testing.T) {
	for _, c := range []struct {
		s    string
		want api.Block
	}{
		{"1", api.Block{}},
		{"011" + "1" + "0001010" + "010" + "011", api.Block{0: 5, 4: -1}},
		{"010" + "000010000" + "00100", api.Block{15: 2}},
		{"011" + "1" + "010" + "0001111" + "00101", api.Block{0: 1, 15: -2}},
		{"00100" + "00100" + "010" + "010" + "00110" + "1" + "00111", api.Block{8: 1, 2: 3, 3: -3}},
		{"000010001" + strings.Repeat("1"+"010", 16), all(1)},
		{told(16, 16), first(16)},
	} {
		checkRead(t, c.s, c.s, c.want)
	}
}

// P6.2: one number at each place, at both ends and next to 0.
func TestReadEachPlace(t *testing.T) {
	for i, at := range known {
		for _, n := range []int{1, -1, 2, 3, -77, most - 1, 1 - most, most, -most} {
			checkRead(t, "alone", whole(1)+whole(i)+signed(n), alone(at, n))
		}
	}
}

// P6.2, R1: a reader that is lost ahead of all, though bits of a block are there; one without bytes; one made by hand.
func TestReadLostAhead(t *testing.T) {
	for i, lose := range []func(r *bits.Reader){
		func(r *bits.Reader) { r.Fixed(33) },
		func(r *bits.Reader) { r.Whole(-1) },
		func(r *bits.Reader) { r.Signed(-1) },
	} {
		r := readerOf(whole(0) + whole(0) + model(first(3)))
		lose(r)
		if b, e := Read(r); b != (api.Block{}) || e != api.ErrScan || !r.Lost() {
			t.Errorf("%d: %v, %d", i, b, e)
		}
	}
	checkLost(t, "no bytes", "")
	if b, e := Read(&bits.Reader{}); b != (api.Block{}) || e != api.ErrScan {
		t.Errorf("%v, %d", b, e)
	}
}

// P6.2: bits that end too early, at each of a block's bits.
func TestReadEndsEarly(t *testing.T) {
	for _, b := range []api.Block{{}, {5, 0, 0, 0, -1}, first(7), first(16), all(-most), alone(15, most), {1: 9, 10: -9, 14: 3}} {
		s := model(b)
		for end := range len(s) {
			checkLost(t, s[:end], s[:end])
		}
		checkRead(t, s, s, b)
	}
}

// P6.2: bits that are no number, in place of each of a block's numbers.
func TestReadLostAtEachNumber(t *testing.T) {
	checkLost(t, "how many", noNumber+behind)
	for many := 1; many <= 16; many++ {
		for there := range many {
			checkLost(t, "how many 0", told(many, there)+noNumber+behind)
			checkLost(t, "the level", told(many, there)+whole(0)+noNumber+behind)
		}
	}
}

// P6.2: 16 are a block; more are none, ahead of all that is told of them.
func TestReadTooMany(t *testing.T) {
	checkRead(t, "16", told(16, 16), first(16))
	for _, many := range []int{17, 18, 31, 32, 255, 256, 257, 1 << 16, 1<<16 + 1, most, 1 << 30, math.MaxInt32, 1 << 31, 1<<31 + 5, 1<<32 - 2} {
		checkNone(t, strconv.Itoa(many), whole(many))
	}
	r := readerOf(told(17, 16) + behind)
	if b, e := Read(r); b != (api.Block{}) || e != api.ErrScan {
		t.Errorf("%v, %d", b, e)
	}
}

// P6.2: one may stand at the last place, and at none behind it, whatever stands ahead of it.
func TestReadBehindTheLastPlace(t *testing.T) {
	for there := range 16 {
		want := first(there)
		want[known[15]] = 6
		s := told(there+1, there)
		checkRead(t, "at the last place", s+whole(15-there)+signed(6), want)
		for _, beyond := range []int{0, 1, 2, 15, 16, 240, 1 << 16, 1 << 31, 1<<32 - 18} {
			checkNone(t, "behind the last place", s+whole(16-there+beyond))
		}
	}
	for many := 2; many <= 16; many++ {
		checkNone(t, "behind one at the last place", whole(many)+whole(15)+signed(1)+whole(0))
	}
}

// P6.2: no level is 0, be it the first one, the last one, or between.
func TestReadZero(t *testing.T) {
	for many := 1; many <= 16; many++ {
		for there := range many {
			checkNone(t, "0", told(many, there)+whole(0)+signed(0))
		}
	}
	for zeros := range 16 {
		checkNone(t, "0 behind others", whole(1)+whole(zeros)+signed(0))
	}
}

// P6.2: a level is at most MaxLevel from 0, at each place.
func TestReadTooFar(t *testing.T) {
	for there := range 16 {
		s := told(there+1, there) + whole(0)
		for _, n := range []int{most, -most} {
			want := first(there)
			want[known[there]] = n
			checkRead(t, "at an end", s+signed(n), want)
		}
		for _, n := range []int{most + 1, most + 2, 2 * most, 1<<30 - 1, 1 << 30, 1<<30 + 1, 1<<31 - 1} {
			checkNone(t, strconv.Itoa(n), s+signed(n))
			checkNone(t, strconv.Itoa(-n), s+signed(-n))
		}
	}
}

// P6.2: behind bits that were no block, the reader reads the next one that is.
func TestReadGoesOnBehindNone(t *testing.T) {
	r := readerOf(whole(17) + model(first(2)) + whole(1) + whole(16) + model(first(3)) + whole(1) + whole(0) + signed(0) + model(first(4)))
	for many := 2; many <= 4; many++ {
		if b, e := Read(r); b != (api.Block{}) || e != api.ErrScan {
			t.Errorf("%v, %d", b, e)
		}
		if b, e := Read(r); b != first(many) || e != api.OK {
			t.Errorf("%v, %d", b, e)
		}
	}
	if r.Lost() {
		t.Error("lost")
	}
}
