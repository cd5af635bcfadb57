package head

import (
	"bytes"
	"testing"

	"clapboard/api"
)

// refusesRead holds Read to its error, beside which there is neither a head nor a payload (R2).
func refusesRead(t *testing.T, b []byte) {
	t.Helper()
	if h, l, e := Read(b); h != (api.Head{}) || len(l) != 0 || e != api.ErrHead {
		t.Errorf("Read(%v): %v, %v, %d", b, h, l, e)
	}
}

// reads holds Read to a head and a payload.
func reads(t *testing.T, b []byte, want api.Head, payload []byte) {
	t.Helper()
	if h, l, e := Read(b); h != want || !bytes.Equal(l, payload) || e != api.OK {
		t.Errorf("Read(%v): %v, %v, %d; not %v, %v", b, h, l, e, want, payload)
	}
}

// payloads are nothing, one and many bytes, starts, headers, and all bytes there are.
func payloads() [][]byte {
	n := numbersOf(13)
	every := make([]byte, 256)
	for i := range every {
		every[i] = byte(i)
	}
	return [][]byte{
		nil, {}, {0}, {9}, {255}, {0, 0, 1}, {0, 0, 3}, {1, 2, 3, 4, 5, 6, 7, 8, 9}, make([]byte, 10), make([]byte, 11),
		{2, 20, 0, 0, 0, 1, 0, 0, 0, 1}, every, bytes.Repeat([]byte{255}, 300), n.bytes(1000), n.bytes(100000),
	}
}

// P11.3: bytes by hand, the chapter's example ahead; the edges of each number.
func TestWriteByHand(t *testing.T) {
	for _, c := range []struct {
		h       api.Head
		payload []byte
		b       []byte
	}{
		{api.Head{Kind: api.PictureP, Quality: 5, Display: 2, Full: 700}, []byte{9}, []byte{1, 5, 0, 0, 0, 2, 0, 0, 2, 188, 9}},
		{api.Head{}, nil, []byte{0, 0, 0, 0, 0, 0, 0, 0, 0, 0}},
		{api.Head{}, []byte{0}, []byte{0, 0, 0, 0, 0, 0, 0, 0, 0, 0, 0}},
		{api.Head{Kind: api.PictureI, Quality: 20, Display: 1<<24 - 1, Full: 1 << 30}, []byte{}, []byte{0, 20, 0, 255, 255, 255, 64, 0, 0, 0}},
		{api.Head{Kind: api.PictureB, Quality: 1, Display: 0x00FEDCBA, Full: 0x3FEDCBA9}, []byte{255, 0, 7}, []byte{2, 1, 0, 0xFE, 0xDC, 0xBA, 0x3F, 0xED, 0xCB, 0xA9, 255, 0, 7}},
		{api.Head{Kind: api.PictureB, Quality: 19, Display: 0x00010203, Full: 0x04050607}, []byte{8, 9, 10}, []byte{2, 19, 0, 1, 2, 3, 4, 5, 6, 7, 8, 9, 10}},
		{api.Head{Kind: api.PictureP, Quality: 0, Display: 255, Full: 256}, []byte{1, 5}, []byte{1, 0, 0, 0, 0, 255, 0, 0, 1, 0, 1, 5}},
		{api.Head{Kind: api.PictureP, Quality: 0, Display: 65536, Full: 65535}, []byte{0, 0, 1}, []byte{1, 0, 0, 1, 0, 0, 0, 0, 255, 255, 0, 0, 1}},
	} {
		if b, e := Write(c.h, c.payload); !bytes.Equal(b, c.b) || e != api.OK {
			t.Errorf("Write(%v, %v): %v, %d", c.h, c.payload, b, e)
		}
		reads(t, c.b, c.h, c.payload)
	}
}

// P11.3, P11.4: a head that is written, whatever its payload, is read as it was, and so is the payload.
func TestReadIsWhatWasWritten(t *testing.T) {
	for _, payload := range payloads() {
		heads := someHeads()
		if len(payload) > 1000 {
			heads = heads[:9]
		}
		for _, h := range heads {
			b, e := Write(h, payload)
			if !bytes.Equal(b, append(tenOfHead(h), payload...)) || e != api.OK {
				t.Fatalf("Write(%v) of %d bytes: %d bytes, %d", h, len(payload), len(b), e)
			}
			x, l, e := Read(b)
			if x != h || !bytes.Equal(l, payload) || e != api.OK {
				t.Fatalf("Read of %v and %d bytes: %v, %d bytes, %d", h, len(payload), x, len(l), e)
			}
		}
	}
}

// P11.3, P11.4: heads and payloads that look like chance.
func TestWriteMany(t *testing.T) {
	n := numbersOf(14)
	for range 100000 {
		h := api.Head{Kind: n.below(3), Quality: n.below(21), Display: n.below(1<<24) >> n.below(25), Full: n.below(1<<30+1) >> n.below(31)}
		payload := n.bytes(n.below(30))
		b, e := Write(h, payload)
		if !bytes.Equal(b, append(tenOfHead(h), payload...)) || e != api.OK {
			t.Fatalf("Write(%v, %v): %v, %d", h, payload, b, e)
		}
		if x, l, e := Read(b); x != h || !bytes.Equal(l, payload) || e != api.OK {
			t.Fatalf("Read(%v): %v, %v, %d", b, x, l, e)
		}
	}
}

// P11.4: by all heads one payload is the same bytes, and they stand behind the ten.
func TestHeadChangesNothingOfItsPayload(t *testing.T) {
	n := numbersOf(15)
	payload := n.bytes(50)
	for _, h := range someHeads() {
		b, _ := Write(h, payload)
		if len(b) != 60 || !bytes.Equal(b[10:], payload) {
			t.Errorf("%v: %v", h, b)
		}
	}
}

// P11.3: of each two first bytes just those are read that are a kind and a quality.
func TestReadEachKindAndQuality(t *testing.T) {
	for kind := range 256 {
		for quality := range 256 {
			want := api.Head{Kind: kind, Quality: quality, Display: 2, Full: 700}
			b := append(ten(byte(kind), byte(quality), 2, 700), 9)
			if !headMayBe(want) {
				refusesRead(t, b)
				refusesRead(t, b[:10])
			} else {
				reads(t, b, want, []byte{9})
				reads(t, b[:10], want, nil)
			}
		}
	}
}

// P11.3: bytes that are too few; ten and more are a head, with as many bytes behind.
func TestReadOfEachLength(t *testing.T) {
	h := api.Head{Kind: api.PictureP, Quality: 5, Display: 2, Full: 700}
	whole := append(tenOfHead(h), 9, 8, 7, 6, 5, 4, 3, 2, 1, 0, 0)
	refusesRead(t, nil)
	refusesRead(t, []byte{})
	for many := range 10 {
		refusesRead(t, whole[:many])
		refusesRead(t, make([]byte, many))
	}
	for many := 10; many <= len(whole); many++ {
		reads(t, whole[:many], h, whole[10:many])
	}
	for many := 10; many < 300; many++ {
		reads(t, make([]byte, many), api.Head{}, make([]byte, many-10))
	}
}

// P11.3: ten bytes, and more, whose numbers are no head's: Display and Full beyond their edges, and the highest of each four bytes at 128 and 255.
func TestReadOfNoHead(t *testing.T) {
	for _, c := range []struct{ display, full uint32 }{
		{1 << 24, 0}, {1<<24 + 1, 0}, {1 << 25, 1 << 30}, {1<<31 - 1, 0}, {1 << 30, 1 << 30},
		{0, 1<<30 + 1}, {0, 1<<30 + 256}, {1<<24 - 1, 1<<30 + 1}, {0, 1<<31 - 1}, {1 << 24, 1<<30 + 1},
		{1 << 31, 0}, {1<<31 + 2, 700}, {0x80FFFFFF, 0}, {255 << 24, 0}, {0xFF000002, 700}, {0xFFFFFFFF, 0},
		{0, 1 << 31}, {2, 1<<31 + 700}, {0, 0x80FFFFFF}, {0, 255 << 24}, {2, 0xFF000002}, {0, 0xFFFFFFFF}, {0xFFFFFFFF, 0xFFFFFFFF}, {1 << 31, 255 << 24},
	} {
		for _, payload := range [][]byte{nil, {9}, make([]byte, 20)} {
			refusesRead(t, append(ten(1, 5, c.display, c.full), payload...))
		}
	}
	for _, fill := range []byte{3, 8, 21, 128, 255} {
		refusesRead(t, bytes.Repeat([]byte{fill}, 10))
		refusesRead(t, bytes.Repeat([]byte{fill}, 50))
	}
}

// P11.3: bytes that look like chance, near to those of a head, are read if they are Write of one, and as that one.
func TestReadOfAny(t *testing.T) {
	n, read := numbersOf(16), 0
	for range 200000 {
		want := api.Head{Kind: n.below(4), Quality: n.below(26), Display: int(uint32(n.next()) >> n.below(33)), Full: int(uint32(n.next()) >> n.below(33))}
		payload := n.bytes(n.below(5))
		b := append(tenOfHead(want), payload...)
		if !headMayBe(want) {
			refusesRead(t, b)
			continue
		}
		read++
		h, l, e := Read(b)
		if h != want || !bytes.Equal(l, payload) || e != api.OK {
			t.Fatalf("Read(%v): %v, %v, %d; not %v", b, h, l, e, want)
		}
		if again, e := Write(h, l); !bytes.Equal(again, b) || e != api.OK {
			t.Fatalf("Write(%v, %v): %v, %d; not %v", h, l, again, e, b)
		}
	}
	if read < 1000 {
		t.Errorf("only %d were read", read)
	}
}

// R4: the payload that Write takes stays as it is, spare room too, whatever becomes of the answer; and the answer, whatever becomes of the payload. So it is by a head that may not be.
func TestWriteMemory(t *testing.T) {
	h := api.Head{Kind: api.PictureP, Quality: 5, Display: 2, Full: 700}
	for _, payload := range payloads() {
		in := roomy(payload)
		b, _ := Write(h, in)
		soil(b)
		if !untouched(in, payload) {
			t.Errorf("Write of %d bytes touches them", len(payload))
		}
		b, _ = Write(h, in)
		other, _ := Write(h, in)
		soil(in)
		soil(other)
		if !bytes.Equal(b, append(tenOfHead(h), payload...)) {
			t.Errorf("Write of %d bytes keeps them", len(payload))
		}
		in = roomy(payload)
		if Write(api.Head{Kind: 3}, in); !untouched(in, payload) {
			t.Errorf("Write of %d bytes that it refuses touches them", len(payload))
		}
	}
}

// R4, P11.3: what Read answers is in memory of its own, spare room too: neither sees what becomes of the other, and the spare room of the bytes stays as it is.
func TestReadMemory(t *testing.T) {
	h := api.Head{Kind: api.PictureP, Quality: 5, Display: 2, Full: 700}
	for _, payload := range payloads() {
		b := append(tenOfHead(h), payload...)
		in := roomy(b)
		_, l, _ := Read(in)
		soil(l)
		if !untouched(in, b) {
			t.Errorf("Read of %d bytes touches them", len(b))
		}
		_, l, _ = Read(in)
		_, other, _ := Read(in)
		soil(in)
		soil(other)
		if !bytes.Equal(l, payload) {
			t.Errorf("Read of %d bytes keeps them", len(b))
		}
	}
	for _, b := range [][]byte{{}, {1, 5, 0}, ten(3, 5, 2, 700), append(ten(1, 21, 2, 700), 9)} {
		in := roomy(b)
		if Read(in); !untouched(in, b) {
			t.Errorf("Read(%v) touches it", b)
		}
	}
}

// R5: spare room behind the bytes, and behind a payload, is no part of them.
func TestSpareRoomIsNotRead(t *testing.T) {
	h := api.Head{Kind: api.PictureP, Quality: 5, Display: 2, Full: 700}
	b := append(tenOfHead(h), 9, 8, 7)
	refusesRead(t, b[:9])
	refusesRead(t, b[:0])
	reads(t, b[:10], h, nil)
	reads(t, b[:11], h, []byte{9})
	reads(t, b[:11:11], h, []byte{9})
	for _, payload := range [][]byte{b[:2], b[:2:2]} {
		if x, e := Write(h, payload); !bytes.Equal(x, append(tenOfHead(h), 1, 5)) || e != api.OK {
			t.Errorf("Write: %v, %d", x, e)
		}
	}
}
