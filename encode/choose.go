package encode

import (
	"cmp"
	"slices"

	"clapboard/api"
	"clapboard/block"
	"clapboard/head"
	"clapboard/intra"
	"clapboard/motion"
	"clapboard/quant"
	"clapboard/wave"
)

// task is a block that is to be told, and what it may be predicted from. All that weigh it read it at once, and none writes it.
type task struct {
	made, past, next api.Frame
	p, x, y          int
	block            api.Block
	guesses          [2]api.Vector
}

// weight is a candidate, without levels, and how much it leaves of the block: below 0, if there is no such candidate.
type weight struct {
	choice api.Choice
	cost   int
}

// way finds a candidate, and weighs it.
type way func() weight

// together is how many ways are gone at once, at most. Each kind of picture has one more of them than the kind ahead of it.
const together = api.PictureB + 1

// Choose is a block's choice, and what it makes, of a picture as far as it is.
func Choose(h api.Head, f, past, next api.Frame, p, x, y int, b api.Block, guesses [2]api.Vector) (api.Choice, api.Block, api.Errno) {
	if e := head.Check(h); e != api.OK {
		return api.Choice{}, api.Block{}, e
	}
	t := &task{made: f, past: past, next: next, p: p, x: x, y: y, block: b, guesses: guesses}
	l := t.candidates(h.Kind)
	if slices.ContainsFunc(l, lacking) {
		return api.Choice{}, api.Block{}, api.ErrPicture
	}
	return t.levelled(least(l), h.Quality)
}

// candidates are those of a kind of picture, weighed, in the order in which the first one of several is wanted.
func (t *task) candidates(kind int) []weight {
	ways := [together]way{api.PictureI: t.within, api.PictureP: t.fromPast, api.PictureB: t.fromNext}
	l := weighed(ways[:kind+1]...)
	if kind != api.PictureB {
		return l
	}
	// The last one goes by the vectors of both ahead of it, so that it has to wait for them.
	past, next := l[api.PictureP].choice.Past, l[api.PictureB].choice.Next
	return append(l, weighed(func() weight { return t.fromBoth(past, next) })...)
}

// weighed are the candidates of some ways, in the order of the ways, in whatever order they come: each is sent on a channel of its own, and has a place of its own. A channel that there is not is never ready.
func weighed(ways ...way) []weight {
	var from [together]<-chan weight
	for at, find := range ways {
		from[at] = begun(find)
	}
	var found [together]weight
	for range ways {
		select {
		case found[0] = <-from[0]:
		case found[1] = <-from[1]:
		case found[2] = <-from[2]:
		}
	}
	return found[:len(ways)]
}

// begun is where a way's candidate comes. The channel holds none, so that whoever sends it has nothing more to do when it is received.
func begun(find way) <-chan weight {
	to := make(chan weight)
	go func() { to <- find() }()
	return to
}

// within is the candidate of the picture itself.
func (t *task) within() weight {
	mode, cost := intra.Best(t.made, t.p, t.x, t.y, t.block)
	return weight{choice: api.Choice{Mode: mode}, cost: cost}
}

// fromPast is that of the frame behind.
func (t *task) fromPast() weight {
	v, cost := motion.Search(t.past, t.p, t.x, t.y, t.block, t.guesses[0])
	return weight{choice: api.Choice{Mode: api.MPast, Past: v}, cost: cost}
}

// fromNext is that of the frame ahead.
func (t *task) fromNext() weight {
	v, cost := motion.Search(t.next, t.p, t.x, t.y, t.block, t.guesses[1])
	return weight{choice: api.Choice{Mode: api.MNext, Next: v}, cost: cost}
}

// fromBoth is that of both frames, by their vectors.
func (t *task) fromBoth(past, next api.Vector) weight {
	c := api.Choice{Mode: api.MBoth, Past: past, Next: next}
	guess, e := t.predicted(c)
	if e != api.OK {
		return weight{cost: -1}
	}
	return weight{choice: c, cost: intra.Cost(guess, t.block)}
}

// predicted is what a candidate tells of the block.
func (t *task) predicted(c api.Choice) (api.Block, api.Errno) {
	return block.Predict(t.made, t.past, t.next, t.p, t.x, t.y, c)
}

// levelled is a candidate with the levels of what it leaves, and what it makes of the block with them.
func (t *task) levelled(c api.Choice, quality int) (api.Choice, api.Block, api.Errno) {
	guess, e := t.predicted(c)
	if e != api.OK {
		return api.Choice{}, api.Block{}, e
	}
	if c.Levels, e = quant.Down(wave.Forward(wave.Less(t.block, guess)), quality); e != api.OK {
		return api.Choice{}, api.Block{}, e
	}
	made, e := block.Build(guess, c, quality)
	if e != api.OK {
		return api.Choice{}, api.Block{}, e
	}
	return c, made, api.OK
}

// lacking tells whether there is no such candidate.
func lacking(w weight) bool {
	return w.cost < 0
}

// least is the candidate that leaves the least; MinFunc takes the first one of several.
func least(l []weight) api.Choice {
	return slices.MinFunc(l, func(a, b weight) int { return cmp.Compare(a.cost, b.cost) }).choice
}
