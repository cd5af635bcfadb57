package bits

import (
	mathbits "math/bits"

	"clapboard/api"
)

// Writer takes numbers as bits. One that is just made has none.
type Writer struct {
	bytes []byte // bits that are not taken yet are 0
	many  int
}

// Bit adds the lowest bit of b.
func (w *Writer) Bit(b int) {
	if w == nil {
		return
	}
	if w.many%perByte == 0 {
		w.bytes = append(w.bytes, 0)
	}
	w.bytes[w.many/perByte] |= byte(b&1) << (perByte - 1 - w.many%perByte)
	w.many++
}

// Fixed adds the lowest bits of n; nothing, if there can't be so many.
func (w *Writer) Fixed(n, bits int) {
	if bits < 0 || bits > mostBits {
		return
	}
	for i := bits - 1; i >= 0; i-- {
		w.Bit(n >> i)
	}
}

// Whole adds a number from 0 to api.MaxNumber; one bit, if it is 0, and more the greater it is.
func (w *Writer) Whole(n int) {
	// Clamped ahead of the sum, so that the sum never wraps round.
	m := min(max(n, 0), api.MaxNumber) + 1
	k := mathbits.Len64(uint64(m))
	w.Fixed(0, k-1)
	w.Fixed(m, k)
}

// Signed adds a number from -2^30 to 2^30. The least one is Whole of 2^31, which Whole clamps: it is written as 2^30 is.
func (w *Writer) Signed(n int) {
	n = min(max(n, -mostSigned), mostSigned)
	if n > 0 {
		w.Whole(2*n - 1)
	} else {
		w.Whole(-2 * n)
	}
}

// End adds a bit 1, and bits 0 up to a byte's end, so that a reader can tell where the numbers end.
func (w *Writer) End() {
	if w == nil {
		return
	}
	w.Bit(1)
	for w.many%perByte != 0 {
		w.Bit(0)
	}
}

// Bytes are all bits, in memory of their own.
func (w *Writer) Bytes() []byte {
	if w == nil {
		return nil
	}
	b := make([]byte, len(w.bytes))
	copy(b, w.bytes)
	return b
}

// Many is how many bits there are.
func (w *Writer) Many() int {
	if w == nil {
		return 0
	}
	return w.many
}
