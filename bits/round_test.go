package bits

import (
	"math"
	"strconv"
	"strings"
	"testing"

	"clapboard/api"
)

// numbers gives the same numbers in each run, by a rule of its own.
type numbers uint64

func (s *numbers) next() int {
	*s = *s*6364136223846793005 + 1442695040888963407
	n := uint64(*s)
	return int(n ^ n>>29)
}

// below is a number from 0 to n - 1.
func (s *numbers) below(n int) int { return int(uint64(s.next()) >> 1 % uint64(n)) }

// sized is a number of any length, of either sign.
func (s *numbers) sized() int { return s.next() >> s.below(64) }

// P1.3: each number of Whole is read as it was, near each power of two.
func TestWholeRound(t *testing.T) {
	for k := range 32 {
		for n := 1<<k - 3; n <= 1<<k+3; n++ {
			if n < 0 || n > api.MaxNumber {
				continue
			}
			w := &Writer{}
			w.Whole(n)
			w.End()
			r := New(w.Bytes())
			if got := r.Whole(n); got != n || r.Done() != api.OK {
				t.Errorf("%d: %d, %d", n, got, r.Done())
			}
			r = New(w.Bytes())
			if got := r.Whole(n - 1); got != 0 || !r.Lost() {
				t.Errorf("%d, of at most one less: %d, %v", n, got, r.Lost())
			}
		}
	}
}

// P1.3: each number of Signed is read as it was, of both signs; but that -2^30 has the bits of 2^30.
func TestSignedRound(t *testing.T) {
	for k := range 31 {
		for n := 1<<k - 3; n <= 1<<k+3; n++ {
			checkSigned(t, n)
			checkSigned(t, -n)
		}
	}
}

func checkSigned(t *testing.T, n int) {
	t.Helper()
	if n <= -mostSigned || n > mostSigned {
		return
	}
	w := &Writer{}
	w.Signed(n)
	w.End()
	size := max(n, -n)
	r := New(w.Bytes())
	if got := r.Signed(size); got != n || r.Done() != api.OK {
		t.Errorf("%d: %d, %d", n, got, r.Done())
	}
	r = New(w.Bytes())
	if got := r.Signed(size - 1); got != 0 || !r.Lost() {
		t.Errorf("%d, of at most one less: %d, %v", n, got, r.Lost())
	}
}

// P1.3: Fixed of each count is read as it was.
func TestFixedRound(t *testing.T) {
	s := numbers(3)
	for bits := range 33 {
		for range 50 {
			n := s.next()
			w := &Writer{}
			w.Fixed(n, bits)
			w.End()
			r := New(w.Bytes())
			if got := r.Fixed(bits); got != n&(1<<bits-1) || r.Done() != api.OK {
				t.Errorf("Fixed(%d, %d): %d, %d", n, bits, got, r.Done())
			}
		}
	}
}

// P1.3: what is written in any mixture is read as it was.
func TestMixedRound(t *testing.T) {
	s := numbers(7)
	for range 300 {
		w := &Writer{}
		var reads []reading
		var want []int
		for range s.below(40) {
			n, bits := s.sized(), s.below(33)
			switch s.below(4) {
			case 0:
				w.Bit(n)
				reads, want = append(reads, bit()), append(want, n&1)
			case 1:
				w.Fixed(n, bits)
				reads, want = append(reads, fixed(bits)), append(want, n&(1<<bits-1))
			case 2:
				w.Whole(n)
				reads, want = append(reads, whole(api.MaxNumber)), append(want, min(max(n, 0), api.MaxNumber))
			case 3:
				n = max(n, 1-mostSigned)
				w.Signed(n)
				reads, want = append(reads, signed(mostSigned)), append(want, min(n, mostSigned))
			}
		}
		w.End()
		r := New(w.Bytes())
		for i, read := range reads {
			if n := read(r); n != want[i] {
				t.Fatalf("number %d: %d, want %d", i, n, want[i])
			}
		}
		if r.Done() != api.OK {
			t.Fatalf("Done: %d", r.Done())
		}
	}
}

// modelWhole reads a number off a text of bits, by the chapter's words: the number, what is left, whether there is one.
func modelWhole(s string) (int, string, bool) {
	k := strings.IndexByte(s, '1')
	if k < 0 || k > 31 || len(s) < 2*k+1 {
		return 0, "", false
	}
	m, _ := strconv.ParseInt(s[k:2*k+1], 2, 64)
	return int(m) - 1, s[2*k+1:], true
}

// modelSigned is the signed number of one of Whole.
func modelSigned(n int) int {
	if n%2 == 0 {
		return -(n / 2)
	}
	return (n + 1) / 2
}

// model reads one number of a kind off a text: 0 Bit, 1 Fixed, 2 Whole, 3 Signed.
func model(s string, kind, arg int) (int, string, bool) {
	if kind == 0 {
		arg = 1
	}
	if kind <= 1 {
		if arg < 0 || arg > 32 || arg > len(s) {
			return 0, "", false
		}
		n, _ := strconv.ParseInt("0"+s[:arg], 2, 64)
		return int(n), s[arg:], true
	}
	n, rest, ok := modelWhole(s)
	size := n
	if ok && kind == 3 {
		n = modelSigned(n)
		size = max(n, -n)
	}
	if !ok || size > arg {
		return 0, "", false
	}
	return n, rest, true
}

// sparse is bytes that have long runs of bits 0, so that numbers of all lengths stand there.
func sparse(s *numbers) []byte {
	b := make([]byte, s.below(24))
	for i := range b {
		if s.below(3) == 0 {
			b[i] = byte(s.next())
		}
	}
	return b
}

// P1.2, R1: any calls on any bytes answer as the chapter's words say.
func TestReaderAnyBytes(t *testing.T) {
	s := numbers(11)
	for range 3000 {
		b := sparse(&s)
		w := &Writer{}
		for _, x := range b {
			w.Fixed(int(x), 8)
		}
		rest, r, lost := shown(w), New(b), false
		for range 12 {
			kind, arg := s.below(4), s.sized()
			if kind == 1 && s.below(4) > 0 {
				arg = s.below(20)
			}
			if kind > 1 && s.below(4) > 0 {
				arg = math.MaxInt
			}
			want := 0
			if !lost {
				n, left, ok := model(rest, kind, arg)
				want, rest, lost = n, left, !ok
			}
			read := []reading{bit(), fixed(arg), whole(arg), signed(arg)}[kind]
			if n := read(r); n != want || r.Lost() != lost {
				t.Fatalf("%v: kind %d of %d: %d, %v, want %d, %v", b, kind, arg, n, r.Lost(), want, lost)
			}
			if done := r.Done() == api.OK; done != (!lost && endsAt(rest, 0)) {
				t.Fatalf("%v: Done: %v", b, done)
			}
		}
	}
}
