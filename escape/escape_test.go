package escape

import (
	"bytes"
	"testing"

	"clapboard/api"
)

// words are all lists of at most so many bytes out of letters.
func words(letters []byte, most int) [][]byte {
	all := [][]byte{{}}
	last := all
	for range most {
		var longer [][]byte
		for _, w := range last {
			for _, c := range letters {
				longer = append(longer, append(bytes.Clone(w), c))
			}
		}
		all = append(all, longer...)
		last = longer
	}
	return all
}

// roomy are b's bytes with spare room, which is full of a byte that a write would be seen in.
func roomy(b []byte) []byte {
	r := bytes.Repeat([]byte{0xAA}, len(b)+16)
	copy(r, b)
	return r[:len(b)]
}

// untouched tells whether r is as roomy(b) made it, spare room and all.
func untouched(r, b []byte) bool {
	return bytes.Equal(r[:cap(r)], roomy(b)[:len(b)+16])
}

// soil writes over all of b, spare room too.
func soil(b []byte) {
	for i := range b[:cap(b)] {
		b[:cap(b)][i] = 0x55
	}
}

// P2.1: ordinary bytes, and the edges: two bytes 0 ahead of 0 to 3, ahead of 4, at the end; counting anew; no bytes.
func TestEscapeAndBack(t *testing.T) {
	for _, c := range []struct{ plain, escaped []byte }{
		{nil, nil},
		{[]byte{7, 8, 9}, []byte{7, 8, 9}},
		{[]byte{3}, []byte{3}},
		{[]byte{0}, []byte{0}},
		{[]byte{0, 3}, []byte{0, 3}},
		{[]byte{0, 1, 0, 1}, []byte{0, 1, 0, 1}},
		{[]byte{0, 0}, []byte{0, 0, 3}},
		{[]byte{9, 0, 0}, []byte{9, 0, 0, 3}},
		{[]byte{0, 0, 0}, []byte{0, 0, 3, 0}},
		{[]byte{0, 0, 1}, []byte{0, 0, 3, 1}},
		{[]byte{0, 0, 2}, []byte{0, 0, 3, 2}},
		{[]byte{0, 0, 3}, []byte{0, 0, 3, 3}},
		{[]byte{0, 0, 4}, []byte{0, 0, 4}},
		{[]byte{0, 0, 255}, []byte{0, 0, 255}},
		{[]byte{0, 0, 0, 0}, []byte{0, 0, 3, 0, 0, 3}},
		{[]byte{0, 0, 0, 0, 0}, []byte{0, 0, 3, 0, 0, 3, 0}},
		{[]byte{0, 0, 0, 0, 4}, []byte{0, 0, 3, 0, 0, 4}},
		{[]byte{0, 0, 0, 1}, []byte{0, 0, 3, 0, 1}},
		{[]byte{0, 0, 3, 0, 0, 3}, []byte{0, 0, 3, 3, 0, 0, 3, 3}},
		{[]byte{0, 0, 4, 0, 0}, []byte{0, 0, 4, 0, 0, 3}},
		{[]byte{0, 0, 3, 4}, []byte{0, 0, 3, 3, 4}},
	} {
		if b := Escape(c.plain); !bytes.Equal(b, c.escaped) {
			t.Errorf("Escape(%v): %v", c.plain, b)
		}
		if b, e := Unescape(c.escaped); !bytes.Equal(b, c.plain) || e != api.OK {
			t.Errorf("Unescape(%v): %v, %d", c.escaped, b, e)
		}
	}
}

// P2.1: a byte is put ahead of 0 to 3, and of no other of the 256.
func TestEscapeEveryByte(t *testing.T) {
	for c := range 256 {
		want := []byte{5, 0, 0, byte(c), 6}
		if c <= 3 {
			want = []byte{5, 0, 0, 3, byte(c), 6}
		}
		if b := Escape([]byte{5, 0, 0, byte(c), 6}); !bytes.Equal(b, want) {
			t.Errorf("byte %d: %v", c, b)
		}
	}
}

// P2.1: bytes that are no Escape of any; beside the error there are none (R2).
func TestUnescapeWrong(t *testing.T) {
	for _, b := range [][]byte{
		{0, 0},
		{1, 0, 0},
		{0, 0, 0},
		{0, 0, 1},
		{0, 0, 2},
		{0, 0, 0, 3},
		{0, 0, 3, 4},
		{0, 0, 3, 255},
		{0, 0, 3, 0, 0},
		{0, 0, 3, 3, 0, 0, 1},
		{0, 0, 3, 1, 0, 0, 3, 9},
		{7, 8, 0, 0, 4, 0, 0, 2, 9},
	} {
		if p, e := Unescape(b); len(p) != 0 || e != api.ErrEscape {
			t.Errorf("Unescape(%v): %v, %d", b, p, e)
		}
	}
}

// P2.1: of all short bytes just those are brought back that are Escape of some, and as what they were; no two have one Escape.
func TestUnescapeAllShort(t *testing.T) {
	all := words([]byte{0, 1, 2, 3, 4}, 7)
	from := map[string][]byte{}
	for _, p := range all {
		b := string(Escape(p))
		if q, ok := from[b]; ok {
			t.Fatalf("%v and %v have one Escape", p, q)
		}
		from[b] = p
	}
	for _, b := range all {
		p, e := Unescape(b)
		want, ok := from[string(b)]
		if ok && (e != api.OK || !bytes.Equal(p, want)) || !ok && (e != api.ErrEscape || len(p) != 0) {
			t.Fatalf("Unescape(%v): %v, %d; want %v, %v", b, p, e, want, ok)
		}
	}
}

// P2.3: no two bytes 0 with less than 3 behind, nor at the end, in anything that is escaped.
func TestEscapedHasNoStart(t *testing.T) {
	for _, p := range words([]byte{0, 1, 2, 3, 4}, 7) {
		b := Escape(p)
		for i := 2; i < len(b); i++ {
			if b[i-2] == 0 && b[i-1] == 0 && b[i] < 3 {
				t.Fatalf("Escape(%v): %v", p, b)
			}
		}
		if bytes.HasSuffix(b, []byte{0, 0}) {
			t.Fatalf("Escape(%v): %v", p, b)
		}
	}
}

// P2.1, P2.3: long bytes, of few kinds and of all, come back as they were.
func TestEscapeLong(t *testing.T) {
	n := uint32(1)
	for _, kinds := range []uint32{1, 2, 5, 256} {
		p := make([]byte, 100000)
		for i := range p {
			n = n*1664525 + 1013904223
			p[i] = byte((n >> 16) % kinds)
		}
		if b, e := Unescape(Escape(p)); !bytes.Equal(b, p) || e != api.OK {
			t.Errorf("%d kinds: %d bytes, %d", kinds, len(b), e)
		}
	}
}

// R4: what is handed in stays as it is, spare room too, and shares nothing with the answer.
func TestEscapeMemory(t *testing.T) {
	for _, p := range [][]byte{{}, {5, 6}, {0, 0}, {0, 0, 1, 9}, {0, 0, 0, 0}} {
		in := roomy(p)
		b := Escape(in)
		soil(b)
		if !untouched(in, p) {
			t.Errorf("Escape(%v) touches it", p)
		}
		b = Escape(in)
		soil(in)
		if !bytes.Equal(b, Escape(p)) {
			t.Errorf("Escape(%v) keeps it", p)
		}
	}
}

// R4: so it is with Unescape, and with bytes that it refuses.
func TestUnescapeMemory(t *testing.T) {
	for _, b := range [][]byte{{}, {5, 6}, {0, 0, 3}, {0, 0, 3, 1, 9}, {0, 0}, {0, 0, 3, 4}} {
		in := roomy(b)
		p, e := Unescape(in)
		soil(p)
		if !untouched(in, b) {
			t.Errorf("Unescape(%v) touches it, %d", b, e)
		}
		p, _ = Unescape(in)
		soil(in)
		if q, _ := Unescape(b); !bytes.Equal(p, q) {
			t.Errorf("Unescape(%v) keeps it", b)
		}
	}
}

// R5: spare room behind the bytes is no part of them.
func TestSpareRoomIsNotRead(t *testing.T) {
	behind := []byte{0, 0, 4, 0, 0, 3, 9}
	if b := Escape(behind[:2]); !bytes.Equal(b, []byte{0, 0, 3}) {
		t.Errorf("Escape: %v", b)
	}
	if p, e := Unescape(behind[:6]); !bytes.Equal(p, []byte{0, 0, 4, 0, 0}) || e != api.OK {
		t.Errorf("Unescape: %v, %d", p, e)
	}
}
