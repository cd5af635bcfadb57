// Package bits is layer 1: bits: see shared/doc/01-bits.md.
package bits

const (
	// mostBits is how many bits Fixed takes at once.
	mostBits = 32
	// mostZeros is how many bits 0 stand ahead of the longest number of Whole: api.MaxNumber and 1 has 32 bits.
	mostZeros = 31
	// mostSigned is how far from 0 a number of Signed may be.
	mostSigned = 1 << 30
	// perByte is how many bits a byte has.
	perByte = 8
)
