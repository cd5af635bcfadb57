package crc

import (
	"bytes"
	"hash/crc32"
	"testing"
)

// polys are polynomials of use, and the edges of all.
var polys = []uint32{IEEE, 0x82F63B78, 0xEB31D82E, 0, 1, 2, 0x80000000, 0x7FFFFFFF, 0xFFFFFFFE, 0xFFFFFFFF}

// sums are those that a sum may go on from: the edges, and some between.
var sums = []uint32{0, 1, 0xFF, 0x100, 0x12345678, 0x7FFFFFFF, 0x80000000, 0xFFFFFF00, 0xFFFFFFFE, 0xFFFFFFFF}

// noise are so many bytes of all kinds, the same ones for the same seed.
func noise(seed uint32, many int) []byte {
	b := make([]byte, many)
	for i := range b {
		seed = seed*1664525 + 1013904223
		b[i] = byte(seed >> 16)
	}
	return b
}

// texts are no bytes, bytes 0, bytes 255, and bytes of all kinds.
func texts() [][]byte {
	l := [][]byte{nil, {}, {0}, {255}, {1}, {128}, {0, 255}, {255, 0}, []byte("123456789")}
	for _, many := range []int{2, 3, 4, 5, 7, 8, 64, 1000} {
		l = append(l, make([]byte, many), bytes.Repeat([]byte{255}, many), noise(uint32(many), many))
	}
	return l
}

// slow is More without a table: bit by bit.
func slow(poly, sum uint32, b []byte) uint32 {
	sum = ^sum
	for _, c := range b {
		sum ^= uint32(c)
		for range 8 {
			odd := sum & 1
			sum >>= 1
			if odd == 1 {
				sum ^= poly
			}
		}
	}
	return ^sum
}

// P3.1: numbers that were worked out by hand: at 0, 1, 2, 128 and 255, by IEEE, and by other polynomials, the least and the greatest among them.
func TestMakeNumbers(t *testing.T) {
	at := [5]int{0, 1, 2, 128, 255}
	for _, c := range []struct {
		poly uint32
		want [5]uint32
	}{
		{IEEE, [5]uint32{0, 0x77073096, 0xEE0E612C, 0xEDB88320, 0x2D02EF8D}},
		{0x82F63B78, [5]uint32{0, 0xF26B8303, 0xE13B70F7, 0x82F63B78, 0xAD7D5351}},
		{0, [5]uint32{0, 0, 0, 0, 0}},
		{1, [5]uint32{0, 1, 1, 1, 0}},
		{0x80000000, [5]uint32{0, 0x01000000, 0x02000000, 0x80000000, 0xFF000000}},
		{0xFFFFFFFF, [5]uint32{0, 0x02000000, 0x04000000, 0xFFFFFFFF, 0x01FFFFFF}},
	} {
		x := Make(c.poly)
		for i, n := range at {
			if x[n] != c.want[i] {
				t.Errorf("Make(%08X) at %d: %08X", c.poly, n, x[n])
			}
		}
	}
}

// P3.1: all 256 numbers of a table, against the library's, by polynomials of all kinds.
func TestMakeWhole(t *testing.T) {
	all := append([]uint32{}, polys...)
	for bit := range 32 {
		all = append(all, 1<<bit, ^uint32(1<<bit))
	}
	for _, poly := range all {
		if x, want := Make(poly), crc32.MakeTable(poly); x != Table(*want) {
			t.Errorf("Make(%08X) is not the library's", poly)
		}
	}
}

// P3.1: a table has as many numbers as there are bytes, and IEEE is the number that the chapter tells.
func TestTableAndIEEE(t *testing.T) {
	if len(Table{}) != 256 || uint32(IEEE) != 0xEDB88320 {
		t.Errorf("%d numbers, %08X", len(Table{}), uint32(IEEE))
	}
}

// P3.2: the chapter's example, and other sums that are known.
func TestSumKnown(t *testing.T) {
	for _, c := range []struct {
		poly uint32
		text string
		sum  uint32
	}{
		{IEEE, "123456789", 0xCBF43926},
		{IEEE, "", 0},
		{IEEE, "a", 0xE8B7BE43},
		{IEEE, "abc", 0x352441C2},
		{IEEE, "The quick brown fox jumps over the lazy dog", 0x414FA339},
		{IEEE, "\x00", 0xD202EF8D},
		{IEEE, "\x00\x00\x00\x00", 0x2144DF1C},
		{IEEE, "\xFF", 0xFF000000},
		{IEEE, "\xFF\xFF\xFF\xFF", 0xFFFFFFFF},
		{0x82F63B78, "123456789", 0xE3069283},
		{0xEB31D82E, "123456789", 0x2D3DD0AE},
		{0, "\x00", 0xFF000000},
		{0, "\x07\x08\x09\xFF", 0xFFFFFFFF},
	} {
		if n := Make(c.poly).Sum([]byte(c.text)); n != c.sum {
			t.Errorf("%08X, %q: %08X", c.poly, c.text, n)
		}
	}
}

// P3.2: Sum and More are what the bits one by one make, and the library: by all polynomials, from all sums, of no bytes, of bytes 0, 255 and others.
func TestMoreAgainstOthers(t *testing.T) {
	for _, poly := range polys {
		x, lib := Make(poly), crc32.MakeTable(poly)
		for _, b := range texts() {
			if n := x.Sum(b); n != slow(poly, 0, b) || n != crc32.Checksum(b, lib) || n != x.More(0, b) {
				t.Errorf("%08X: Sum of %d bytes: %08X", poly, len(b), n)
			}
			for _, sum := range sums {
				if n := x.More(sum, b); n != slow(poly, sum, b) || n != crc32.Update(sum, lib, b) {
					t.Errorf("%08X: More(%08X) of %d bytes: %08X", poly, sum, len(b), n)
				}
			}
		}
	}
}

// P3.2: each byte there is, from a sum whose bits are all there, and from none.
func TestMoreEveryByte(t *testing.T) {
	x := Make(IEEE)
	for c := range 256 {
		b := []byte{byte(c)}
		if n, want := x.More(0xFFFFFFFF, b), ^x[c]; n != want {
			t.Errorf("byte %d behind FFFFFFFF: %08X", c, n)
		}
		if n, want := x.More(0, b), ^(x[255-c] ^ 0x00FFFFFF); n != want {
			t.Errorf("byte %d behind 0: %08X", c, n)
		}
	}
}

// P3.2: a table that is made by hand is gone by as it stands: one of zeros, and one in which each number stands at its own place, with a highest byte of its own.
func TestMoreByHandMadeTables(t *testing.T) {
	var none, own Table
	for n := range own {
		own[n] = uint32(n) | uint32(n)<<24
	}
	for _, c := range []struct {
		table     Table
		sum, want uint32
		b         []byte
	}{
		{none, 0, 0, nil},
		{none, 0x12345678, 0x12345678, nil},
		{none, 0, 0xFF000000, []byte{9}},
		{none, 0x12345678, 0xFF123456, []byte{9}},
		{none, 0, 0xFFFFFFFF, []byte{1, 2, 3, 4}},
		{own, 0, 0x090000F6, []byte{9}},
		{own, ^uint32(0x12345678), ^uint32(0x71123427), []byte{9}},
	} {
		if n := c.table.More(c.sum, c.b); n != c.want {
			t.Errorf("More(%08X, %v): %08X, want %08X", c.sum, c.b, n, c.want)
		}
	}
}

// P3.3: wherever bytes are parted, the sum of those behind goes on where that of those ahead ended: with none ahead, and with none behind, too; and from any sum.
func TestMoreGoesOn(t *testing.T) {
	for _, poly := range polys {
		x := Make(poly)
		for _, b := range texts() {
			for at := 0; at <= len(b); at += 1 + len(b)/50 {
				if n := x.More(x.Sum(b[:at]), b[at:]); n != x.Sum(b) {
					t.Errorf("%08X: %d bytes, parted at %d: %08X", poly, len(b), at, n)
				}
				for _, sum := range sums {
					if n := x.More(x.More(sum, b[:at]), b[at:]); n != x.More(sum, b) {
						t.Errorf("%08X: %d bytes behind %08X, parted at %d: %08X", poly, len(b), sum, at, n)
					}
				}
			}
			if n := x.More(x.Sum(b), nil); n != x.Sum(b) {
				t.Errorf("%08X: %d bytes, none behind: %08X", poly, len(b), n)
			}
		}
	}
}

// P3.3: byte by byte, and in pieces of many lengths.
func TestMoreInPieces(t *testing.T) {
	x, b := Make(IEEE), noise(5, 5000)
	for _, piece := range []int{1, 2, 3, 7, 256, 4999, 5000} {
		sum := uint32(0)
		for at := 0; at < len(b); at += piece {
			sum = x.More(sum, b[at:min(at+piece, len(b))])
		}
		if sum != x.Sum(b) {
			t.Errorf("pieces of %d: %08X", piece, sum)
		}
	}
}

// P3.2: long bytes, as those of a box.
func TestSumLong(t *testing.T) {
	x, b := Make(IEEE), noise(9, 1<<20)
	if n := x.Sum(b); n != crc32.ChecksumIEEE(b) {
		t.Errorf("%08X", n)
	}
}

// R4: the bytes stay as they are, spare room too; so does the table, whatever becomes of another one.
func TestNothingIsChanged(t *testing.T) {
	b := noise(3, 40)
	in := bytes.Clone(b)
	x := Make(IEEE)
	x.Sum(in[:20])
	x.More(7, in[:20])
	if !bytes.Equal(in, b) || x != Make(IEEE) {
		t.Error("bytes or table are changed")
	}
	y := x
	y[0], y[255] = 1, 2
	if x != Make(IEEE) || x.Sum(b) != crc32.ChecksumIEEE(b) {
		t.Error("a table shares its numbers with another one")
	}
}

// R5: what stands behind the bytes is no part of them.
func TestSpareRoomIsNotRead(t *testing.T) {
	x := Make(IEEE)
	if n := x.Sum([]byte("123456789abc")[:9]); n != 0xCBF43926 {
		t.Errorf("%08X", n)
	}
	if n := x.More(5, []byte("123")[:0]); n != 5 {
		t.Errorf("%08X", n)
	}
}
