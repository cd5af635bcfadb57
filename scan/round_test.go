package scan

import (
	"strconv"
	"strings"
	"testing"

	"clapboard/api"
	"clapboard/bits"
)

// numbers gives the same numbers in each run, by a rule of its own.
type numbers uint64

func (s *numbers) next() int {
	*s = *s*6364136223846793005 + 1442695040888963407
	n := uint64(*s)
	return int(n ^ n>>29)
}

// below is a number from 0 to n - 1.
func (s *numbers) below(n int) int { return int(uint64(s.next()) >> 1 % uint64(n)) }

// block is one whose numbers are of all lengths and either sign, some beyond the ends, and of which more or fewer are 0.
func (s *numbers) block() api.Block {
	var b api.Block
	sparse := s.below(5)
	for at := range b {
		if s.below(5) >= sparse {
			b[at] = s.next() >> s.below(64)
		}
	}
	return b
}

// clampedBlock is a block as it is read, if it was written.
func clampedBlock(b api.Block) api.Block {
	for at, n := range b {
		b[at] = min(max(n, -most), most)
	}
	return b
}

// P6.3: an empty block, full ones, and one number at each place, at the ends and beyond them.
func TestRoundEdges(t *testing.T) {
	blocks := []api.Block{{}, all(1), all(-1), all(most), all(-most), first(16)}
	for _, c := range edges {
		blocks = append(blocks, all(c.n))
		for at := range 16 {
			blocks = append(blocks, alone(at, c.n), alone(at, 1), alone(at, -1))
		}
	}
	for _, b := range blocks {
		w := &bits.Writer{}
		Write(w, b)
		w.End()
		r := bits.New(w.Bytes())
		if got, e := Read(r); got != clampedBlock(b) || e != api.OK || r.Done() != api.OK {
			t.Errorf("%v: %v, %d, %d", b, got, e, r.Done())
		}
	}
}

// P6.3: each of the 65536 ways in which places may be 0, or not.
func TestRoundEachMask(t *testing.T) {
	for mask := range 1 << 16 {
		var b api.Block
		for at := range b {
			b[at] = (mask >> at & 1) * (at*31 - 199)
		}
		w := &bits.Writer{}
		Write(w, b)
		w.End()
		r := bits.New(w.Bytes())
		if got, e := Read(r); got != b || e != api.OK || r.Done() != api.OK {
			t.Fatalf("%v: %v, %d, %d", b, got, e, r.Done())
		}
	}
}

// P6.3: blocks that are written one behind the other, with other numbers between, are read as they were.
func TestRoundOneBehindTheOther(t *testing.T) {
	s := numbers(17)
	for range 300 {
		w := &bits.Writer{}
		var want []api.Block
		var between []int
		for range s.below(30) {
			b, n := s.block(), s.below(9)
			w.Whole(n)
			Write(w, b)
			between, want = append(between, n), append(want, clampedBlock(b))
		}
		w.End()
		r := bits.New(w.Bytes())
		for i := range want {
			if n := r.Whole(9); n != between[i] {
				t.Fatalf("ahead of block %d: %d, want %d", i, n, between[i])
			}
			if b, e := Read(r); b != want[i] || e != api.OK {
				t.Fatalf("block %d: %v, %d, want %v", i, b, e, want[i])
			}
		}
		if r.Done() != api.OK {
			t.Fatalf("Done: %d", r.Done())
		}
	}
}

// P6.2: blocks of all kinds have the bits that the chapter's words say.
func TestWriteMany(t *testing.T) {
	s := numbers(23)
	for range 20000 {
		if b := s.block(); written(b) != model(b) {
			t.Fatalf("%v: %s, want %s", b, written(b), model(b))
		}
	}
}

// takeWhole reads a number off a text of bits: the number, what is left, whether there is one.
func takeWhole(s string) (int, string, bool) {
	k := strings.IndexByte(s, '1')
	if k < 0 || k > 31 || len(s) < 2*k+1 {
		return 0, "", false
	}
	m, _ := strconv.ParseInt(s[k:2*k+1], 2, 64)
	return int(m) - 1, s[2*k+1:], true
}

// takeSigned is that of a signed one.
func takeSigned(s string) (int, string, bool) {
	n, s, ok := takeWhole(s)
	if n%2 == 0 {
		return -(n / 2), s, ok
	}
	return (n + 1) / 2, s, ok
}

// take reads a block off a text of bits, by the chapter's words: the block, what is left, whether there is one, and whether a reader is lost.
func take(s string) (b api.Block, rest string, is, lost bool) {
	many, s, ok := takeWhole(s)
	if !ok || many > 16 {
		return api.Block{}, s, false, !ok
	}
	var zeros, n int
	for at := 0; many > 0; many-- {
		if zeros, s, ok = takeWhole(s); !ok || at+zeros > 15 {
			return api.Block{}, s, false, !ok
		}
		if n, s, ok = takeSigned(s); !ok || n == 0 || n > most || n < -most {
			return api.Block{}, s, false, !ok
		}
		b[known[at+zeros]] = n
		at += zeros + 1
	}
	return b, s, true, false
}

// anyBits are bits that begin as a block might, and go wrong somewhere, or don't.
func (s *numbers) anyBits() string {
	t := ""
	if s.below(4) > 0 {
		t = whole(s.below(19))
	}
	for range s.below(18) {
		zeros := 0
		if s.below(3) == 0 {
			zeros = s.below(5)
		}
		t += whole(zeros)
		switch s.below(9) {
		case 0:
			t += whole(s.below(3))
		case 1:
			t += signed(s.below(4*most) - 2*most)
		default:
			t += signed(s.below(9) + 1)
		}
	}
	for range s.below(100) {
		t += strconv.Itoa(s.below(4) / 3)
	}
	return t[s.below(2)*s.below(len(t)+1):]
}

// P6.2, R1, R2: any bits are the block, or the error, that the chapter's words say, and as much is read of them.
func TestReadAnyBits(t *testing.T) {
	s := numbers(29)
	blocks, none, lost := 0, 0, 0
	for range 60000 {
		text := s.anyBits()
		want, rest, is, gone := take(text)
		r := readerOf(text)
		b, e := Read(r)
		if b != want || (e == api.OK) != is || !is && e != api.ErrScan || r.Lost() != gone {
			t.Fatalf("%s: %v, %d, %v, want %v, %v, %v", text, b, e, r.Lost(), want, is, gone)
		}
		for i := 0; i < len(rest) && !gone; i++ {
			if n := r.Bit(); n != int(rest[i]-'0') || r.Lost() {
				t.Fatalf("%s: bit %d behind it: %d, %v", text, i, n, r.Lost())
			}
		}
		if r.Bit(); !r.Lost() {
			t.Fatalf("%s: there is more behind it", text)
		}
		switch {
		case is:
			blocks++
		case gone:
			lost++
		default:
			none++
		}
	}
	if min(blocks, none, lost) < 5000 {
		t.Errorf("too few of a kind: %d, %d, %d", blocks, none, lost)
	}
}
