package block

import (
	"math"
	"testing"

	"clapboard/api"
	"clapboard/bits"
	"clapboard/quant"
	"clapboard/wave"
)

// built is what Build should answer by a quality, by the chapter's words.
func built(b api.Block, levels api.Block, quality int) api.Block {
	up, _ := quant.Up(levels, quality)
	b = wave.More(b, wave.Back(up))
	for i, n := range b {
		switch {
		case n < 0:
			b[i] = 0
		case n > 255:
			b[i] = 255
		}
	}
	return b
}

// makes holds Build to the chapter's words, and its numbers to be samples.
func makes(t *testing.T, b api.Block, c api.Choice, quality int) {
	t.Helper()
	got, e := Build(b, c, quality)
	if want := built(b, c.Levels, quality); got != want || e != api.OK {
		t.Fatalf("%v, %+v, %d: %v, %d, not %v", b, c, quality, got, e, want)
	}
	for _, n := range got {
		if n < 0 || n > 255 {
			t.Fatalf("%v, %+v, %d: %d is no sample", b, c, quality, n)
		}
	}
}

// P12.3: blocks by hand: steps, halves, and both ends of a sample.
func TestBuildByHand(t *testing.T) {
	for i, c := range []struct {
		b       api.Block
		levels  api.Block
		quality int
		want    api.Block
	}{
		{api.Block{}, api.Block{}, 0, api.Block{}},
		{full(7), api.Block{}, 20, full(7)},
		{full(100), api.Block{16}, 0, full(101)},
		{full(100), api.Block{7}, 0, full(100)},
		{full(100), api.Block{8}, 0, full(101)},
		{full(100), api.Block{-8}, 0, full(100)},
		{full(100), api.Block{-9}, 0, full(99)},
		{full(100), api.Block{32}, 2, full(106)},
		{full(250), api.Block{32}, 2, full(255)},
		{full(3), api.Block{-32}, 2, full(0)},
		{full(249), api.Block{32}, 2, full(255)},
		{full(6), api.Block{-32}, 2, full(0)},
		{full(0), api.Block{1}, 20, full(12)},
		{full(50), api.Block{-2}, 15, full(42)},
		{full(100), api.Block{0, 16}, 0, api.Block{101, 101, 99, 99, 101, 101, 99, 99, 101, 101, 99, 99, 101, 101, 99, 99}},
		{full(100), api.Block{4: 16}, 0, api.Block{101, 101, 101, 101, 101, 101, 101, 101, 99, 99, 99, 99, 99, 99, 99, 99}},
		{full(1), api.Block{0, 32}, 0, api.Block{3, 3, 0, 0, 3, 3, 0, 0, 3, 3, 0, 0, 3, 3, 0, 0}},
		{full(254), api.Block{0, 32}, 0, api.Block{255, 255, 252, 252, 255, 255, 252, 252, 255, 255, 252, 252, 255, 255, 252, 252}},
		{api.Block{-9, -1, 0, 255, 256, 300, math.MinInt, math.MaxInt}, api.Block{}, 0, api.Block{0, 0, 0, 255, 255, 255, 0, 255}},
		{full(0), api.Block{1 << 20}, 20, full(255)},
		{full(255), api.Block{-1 << 20}, 20, full(0)},
	} {
		if b, e := Build(c.b, api.Choice{Levels: c.levels}, c.quality); b != c.want || e != api.OK {
			t.Errorf("%d: %v, %d, not %v", i, b, e, c.want)
		}
	}
}

// P12.3: each quality, with levels and blocks that look like chance, small and great.
func TestBuildMany(t *testing.T) {
	n := numbers(340)
	for quality := range 21 {
		for range 1500 {
			var b api.Block
			for i := range b {
				b[i] = n.below(256)
			}
			makes(t, b, api.Choice{Levels: n.levels()}, quality)
			b[n.below(16)] = heights[n.below(len(heights))]
			c := n.choice(n.below(7))
			c.Levels[n.below(16)] = heights[n.below(len(heights))]
			c.Levels[n.below(16)] = heights[n.below(len(heights))]
			makes(t, b, c, quality)
		}
	}
}

// P12.3: numbers beyond MaxLevel, both ends of an int among them, are as those at the end: of levels, and of what was predicted.
func TestBuildOfFarNumbers(t *testing.T) {
	for _, n := range heights {
		near := max(-1<<20, min(n, 1<<20))
		for at := range 16 {
			for _, quality := range []int{0, 1, 20} {
				var levels, as api.Block
				levels[at], as[at] = n, near
				levels[(at+5)%16], as[(at+5)%16] = 1<<20, 1<<20
				got, e := Build(full(99), api.Choice{Levels: levels}, quality)
				if got != built(full(99), as, quality) || e != api.OK {
					t.Errorf("level %d at %d, quality %d: %v, %d", n, at, quality, got, e)
				}
				b := full(99)
				b[at] = n
				far, e := Build(b, api.Choice{Levels: api.Block{-1 << 20}}, quality)
				b[at] = near
				if same := built(b, api.Block{-1 << 20}, quality); far != same || e != api.OK {
					t.Errorf("%d at %d, quality %d: %v, %d, not %v", n, at, quality, far, e, same)
				}
			}
		}
	}
	// Each number grows by 2^16: but for the clamp, the greatest int would wrap round.
	if b, e := Build(api.Block{math.MaxInt, math.MinInt}, api.Choice{Levels: api.Block{1 << 20}}, 0); b[0] != 255 || b[1] != 0 || b[2] != 255 || e != api.OK {
		t.Errorf("%v, %d", b, e)
	}
}

// P12.3: a quality that is none: quant.Up's error, and no block, whatever else there is.
func TestBuildOfNoQuality(t *testing.T) {
	for _, quality := range append([]int{-21, -20, -2, -1, 21, 22, 40, 256}, far...) {
		for _, c := range []api.Choice{{}, {Mode: 6, Past: of(1, 1), Levels: api.Block{5}}, {Mode: 7, Past: of(32, 32), Levels: api.Block{math.MaxInt}}} {
			if b, e := Build(full(100), c, quality); b != (api.Block{}) || e != api.ErrQuant {
				t.Errorf("%d: %v, %d", quality, b, e)
			}
		}
	}
	for _, quality := range []int{0, 20} {
		if b, e := Build(full(100), api.Choice{}, quality); b != full(100) || e != api.OK {
			t.Errorf("%d: %v, %d", quality, b, e)
		}
	}
}

// P12.3: modes and vectors change nothing, though Check would refuse them.
func TestBuildOfWhatIsRefused(t *testing.T) {
	for _, mode := range modes {
		for _, v := range guesses {
			makes(t, full(77), api.Choice{Mode: mode, Past: v, Next: v, Levels: api.Block{40, -9, 3}}, 7)
		}
	}
}

// chosen is a choice of a mode whose levels are of what is left of a block, forward, by a quality.
func chosen(t *testing.T, mode int, b, guess api.Block, quality int) api.Choice {
	t.Helper()
	levels, e := quant.Down(wave.Forward(wave.Less(b, guess)), quality)
	if e != api.OK {
		t.Fatalf("%d: %d", quality, e)
	}
	return api.Choice{Mode: mode, Levels: levels}
}

// beside: by a quality a block is built at most the bound beside what it was, and by the quality 0 as it was, from a choice that was written and read.
func beside(t *testing.T, c api.Choice, b, guess api.Block, quality int) {
	t.Helper()
	w := &bits.Writer{}
	if e := Write(w, 2, c, none, none); e != api.OK {
		t.Fatalf("%+v: %d", c, e)
	}
	w.End()
	read, e := Read(bits.New(w.Bytes()), 2, none, none)
	if read != c || e != api.OK {
		t.Fatalf("%+v: %+v, %d", c, read, e)
	}
	got, e := Build(guess, read, quality)
	if e != api.OK || quality == 0 && got != b {
		t.Fatalf("%v, %v, %d: %v, %d", b, guess, quality, got, e)
	}
	bound, _ := quant.Bound(quality)
	for i := range b {
		if got[i]-b[i] > bound || b[i]-got[i] > bound {
			t.Fatalf("%v, %v, %d: %v", b, guess, quality, got)
		}
	}
}

// P12.4: by each quality, blocks of samples beside guesses of samples, such as look like chance, and such as are at both ends.
func TestBesideWhatItWas(t *testing.T) {
	n := numbers(341)
	samples := func() api.Block {
		var b api.Block
		about, apart := n.below(256), []int{1, 6, 40, 256}[n.below(4)]
		for i := range b {
			b[i] = max(0, min(about+n.below(apart)-apart/2, 255))
			if apart == 256 && n.below(2) == 0 {
				b[i] = 255 * n.below(2)
			}
		}
		return b
	}
	for quality := range 21 {
		for range 1500 {
			b, guess := samples(), samples()
			beside(t, chosen(t, n.below(7), b, guess, quality), b, guess, quality)
		}
		for _, a := range []int{0, 1, 127, 254, 255} {
			for guess := range 256 {
				beside(t, chosen(t, 0, full(a), full(guess), quality), full(a), full(guess), quality)
			}
		}
	}
}

// P12.4: with what each mode predicts of three frames, and its vectors.
func TestBesideWhatWasPredicted(t *testing.T) {
	n := numbers(342)
	f, past, next := made(&n, 16, 16), made(&n, 16, 16), made(&n, 16, 16)
	for quality := range 21 {
		for range 300 {
			c := n.choice(n.below(7))
			guess, e := Predict(f, past, next, n.below(3), n.below(17), n.below(17), c)
			if e != api.OK {
				t.Fatalf("%+v: %d", c, e)
			}
			var b api.Block
			for i := range b {
				b[i] = n.below(256)
			}
			c.Levels = chosen(t, c.Mode, b, guess, quality).Levels
			beside(t, c, b, guess, quality)
		}
	}
}
