package bits

import (
	"clapboard/api"
)

// Reader gives numbers back, until it is lost: then it gives 0 alone.
type Reader struct {
	bytes []byte
	at    int // the next bit
	lost  bool
}

// New is a reader of bytes, at their first bit.
func New(b []byte) *Reader {
	own := make([]byte, len(b))
	copy(own, b) // what the caller does with b later must not be seen
	return &Reader{bytes: own}
}

// Bit is the next bit.
func (r *Reader) Bit() int {
	return r.attempt(r.next)
}

// Fixed is the number of so many bits.
func (r *Reader) Fixed(bits int) int {
	return r.attempt(func() int {
		if bits < 0 || bits > mostBits {
			giveUp()
		}
		return r.fixed(bits)
	})
}

// Whole is a number that Writer.Whole wrote, if it is at most most.
func (r *Reader) Whole(most int) int {
	return r.attempt(func() int {
		n := r.whole()
		if n > most {
			giveUp()
		}
		return n
	})
}

// Signed is a number that Writer.Signed wrote, if it is at most most from 0.
func (r *Reader) Signed(most int) int {
	return r.attempt(func() int {
		n := r.signed()
		// Not held against -most: the least int of all has none.
		if max(n, -n) > most {
			giveUp()
		}
		return n
	})
}

// Done tells whether the rest is what Writer.End writes; nothing is read by it.
func (r *Reader) Done() api.Errno {
	if r == nil {
		return api.ErrArg
	}
	if r.lost || !r.ended() {
		return api.ErrBits
	}
	return api.OK
}

// Lost tells whether the reader is.
func (r *Reader) Lost() bool {
	return r == nil || r.lost
}

// attempt answers what read does. Where read gives up, the reader is lost.
func (r *Reader) attempt(read func() int) (n int) {
	if r.Lost() {
		return 0
	}
	defer func() {
		if recover() != nil {
			n, r.lost = 0, true
		}
	}()
	return read()
}

// giveUp leaves a reading from any depth; attempt recovers it.
func giveUp() {
	panic(api.ErrBits)
}

// next is the next bit; it gives up at the end.
func (r *Reader) next() int {
	place := r.at / perByte
	if place >= len(r.bytes) {
		giveUp()
	}
	bit := r.bytes[place] >> (perByte - 1 - r.at%perByte) & 1
	r.at++
	return int(bit)
}

// fixed is the number of so many bits, the highest first.
func (r *Reader) fixed(bits int) int {
	n := 0
	for range bits {
		n = n<<1 | r.next()
	}
	return n
}

// whole is a number as Writer.Whole writes it, those above api.MaxNumber too that its longest form has room for.
func (r *Reader) whole() int {
	zeros := 0
	for r.next() == 0 {
		zeros++
		if zeros > mostZeros {
			giveUp()
		}
	}
	m := 1<<zeros | r.fixed(zeros)
	return m - 1
}

// signed is a number as Writer.Signed writes it: odd ones of whole are those above 0.
func (r *Reader) signed() int {
	n := r.whole()
	if n%2 == 1 {
		return (n + 1) / 2
	}
	return -n / 2
}

// ended tells whether the rest is a bit 1, and bits 0 up to the end of the last byte.
func (r *Reader) ended() bool {
	last := len(r.bytes) - 1
	// The bits that were read are shifted out of the byte.
	return r.at/perByte == last && r.bytes[last]<<(r.at%perByte) == 1<<(perByte-1)
}
