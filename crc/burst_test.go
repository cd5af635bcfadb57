package crc

import (
	"bytes"
	"encoding/binary"
	"testing"
)

// lengths are how many bytes there are around those that are changed.
var lengths = []int{4, 5, 8, 9, 33, 300}

// changed are b's bytes, with those from one place on changed (^) by others.
func changed(b []byte, at int, by ...byte) []byte {
	c := bytes.Clone(b)
	for i, x := range by {
		c[at+i] ^= x
	}
	return c
}

// places are where four bytes may stand among so many: at the beginning, at the end, and between.
func places(many int) []int {
	return []int{0, (many - 4) / 2, many - 4}
}

// rank is how many of these numbers can't be made of the others by ^.
func rank(l []uint32) int {
	var high [32]uint32
	many := 0
	for _, n := range l {
		for bit := 31; bit >= 0 && n != 0; bit-- {
			if n>>bit&1 == 0 {
				continue
			}
			if high[bit] == 0 {
				high[bit] = n
				many++
				break
			}
			n ^= high[bit]
		}
	}
	return many
}

// P3.3: all changes of four bytes side by side: each is made of 32 of one bit, whose marks on the sum no ^ of some of them brings to 0.
func TestFourBytesByTheirBits(t *testing.T) {
	x := Make(IEEE)
	for _, many := range lengths {
		b := noise(uint32(many), many)
		for _, at := range places(many) {
			var marks []uint32
			for bit := range 32 {
				by := binary.LittleEndian.AppendUint32(nil, 1<<bit)
				marks = append(marks, x.Sum(b)^x.Sum(changed(b, at, by...)))
			}
			if n := rank(marks); n != 32 {
				t.Errorf("%d bytes, at %d: a change of four is not seen: %d", many, at, n)
			}
			marksAddUp(t, x, b, at, marks)
		}
	}
}

// marksAddUp holds the sum to what the test above leans on: a change's mark is that of its bits, one ^ the other.
func marksAddUp(t *testing.T, x Table, b []byte, at int, marks []uint32) {
	t.Helper()
	by := noise(uint32(at+1), 4*200)
	for ; len(by) > 0; by = by[4:] {
		want, bits := x.Sum(b), binary.LittleEndian.Uint32(by)
		for bit, m := range marks {
			want ^= m * (bits >> bit & 1)
		}
		if n := x.Sum(changed(b, at, by[:4]...)); n != want {
			t.Fatalf("%d bytes, at %d changed by %v: %08X, want %08X", len(b), at, by[:4], n, want)
		}
	}
}

// P3.3: one byte that is another, of all 255, at every place.
func TestOneByte(t *testing.T) {
	x := Make(IEEE)
	for _, many := range []int{1, 2, 5, 40} {
		b := noise(uint32(many), many)
		for at := range many {
			for by := 1; by < 256; by++ {
				if x.Sum(changed(b, at, byte(by))) == x.Sum(b) {
					t.Fatalf("%d bytes, at %d changed by %d: the same sum", many, at, by)
				}
			}
		}
	}
}

// P3.3: two bytes that are others, of all 65535, at the beginning, at the end, and with nothing around.
func TestTwoBytes(t *testing.T) {
	x := Make(IEEE)
	for _, many := range []int{2, 9} {
		b := noise(uint32(many), many)
		for _, at := range []int{0, many - 2} {
			for by := 1; by < 1<<16; by++ {
				if x.Sum(changed(b, at, byte(by), byte(by>>8))) == x.Sum(b) {
					t.Fatalf("%d bytes, at %d changed by %04X: the same sum", many, at, by)
				}
			}
		}
	}
}

// P3.3: three and four bytes that are others, of many kinds, the polynomial's own bits among them; behind other sums, and with bytes behind, too.
func TestThreeAndFourBytes(t *testing.T) {
	x := Make(IEEE)
	kinds := noise(1, 4000)
	kinds = append(kinds, 0x20, 0x83, 0xB8, 0xED, 0xED, 0xB8, 0x83, 0x20, 255, 255, 255, 255, 1, 0, 0, 1, 128, 0, 0, 128)
	for _, many := range lengths {
		b := noise(uint32(many), many)
		for _, at := range places(many) {
			for i := 0; i < len(kinds); i += 4 {
				three, four := changed(b, at, kinds[i:i+3]...), changed(b, at, kinds[i:i+4]...)
				for _, sum := range []uint32{0, 0x12345678, 0xFFFFFFFF} {
					n := x.More(sum, b)
					if !bytes.Equal(three, b) && x.More(sum, three) == n || x.More(sum, four) == n {
						t.Fatalf("%d bytes behind %08X, at %d changed by %v: the same sum", many, sum, at, kinds[i:i+4])
					}
				}
			}
		}
	}
}

// P3.3 promises no more than four: five bytes side by side, IEEE's own and a 1 shifted in, leave the sum as it is; so four is the edge.
func TestFiveBytesMayBeMissed(t *testing.T) {
	x, b := Make(IEEE), noise(4, 12)
	whole := uint64(IEEE)<<1 | 1
	by := binary.LittleEndian.AppendUint64(nil, whole)[:5]
	if x.Sum(changed(b, 3, by...)) != x.Sum(b) {
		t.Errorf("changed by %v: another sum", by)
	}
}
