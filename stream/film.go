package stream

import (
	"clapboard/api"
	"clapboard/head"
	"clapboard/order"
)

// none is the place of a picture that another does not come from: one ahead of all that may be.
const none = -1

// film are the heads, and the payloads, of pictures that are a film.
func film(l [][]byte) ([]api.Head, [][]byte, api.Errno) {
	if len(l) == 0 || len(l) > api.MaxFrames {
		return nil, nil, api.ErrStream
	}
	heads, payloads, e := read(l)
	if e != api.OK {
		return nil, nil, e
	}
	if !eachOnce(heads) || !inOrder(heads) {
		return nil, nil, api.ErrStream
	}
	return heads, payloads, api.OK
}

// read are the heads, and the payloads, of pictures, whether they are a film or not.
func read(l [][]byte) ([]api.Head, [][]byte, api.Errno) {
	heads := make([]api.Head, len(l))
	payloads := make([][]byte, len(l))
	for at, b := range l {
		var e api.Errno
		if heads[at], payloads[at], e = head.Read(b); e != api.OK {
			return nil, nil, e
		}
	}
	return heads, payloads, api.OK
}

// eachOnce tells whether each place has just one picture, as order asks of what it shows.
func eachOnce(l []api.Head) bool {
	displays := make([]int, len(l))
	for at, h := range l {
		displays[at] = h.Display
	}
	_, _, e := order.Show(displays)
	return e == api.OK
}

// inOrder tells whether the first picture begins a group, and each one is shown where those that are told ahead of it let it be.
func inOrder(l []api.Head) bool {
	if l[0].Kind != api.PictureI {
		return false
	}
	// A picture of both sides is shown between behind and anchor: behind goes on with each one, so that they rise. None that was told is shown behind anchor.
	behind, anchor := none, none
	right := 0
pictures:
	for _, h := range l {
		switch h.Kind {
		case api.PictureI:
			if h.Display <= anchor {
				break pictures
			}
			// Nothing is between an anchor and itself: till there is another one of its group, no picture comes from both sides.
			behind, anchor = h.Display, h.Display
		case api.PictureP:
			if h.Display <= anchor {
				break pictures
			}
			behind, anchor = anchor, h.Display
		case api.PictureB:
			if h.Display <= behind || h.Display >= anchor {
				break pictures
			}
			behind = h.Display
		}
		right++
	}
	return right == len(l)
}

// slots are a film's pictures, each with the places of those that it comes from. An anchor is shown behind the one ahead of it, so that of both the first one is the past.
func slots(l []api.Head) []api.Slot {
	told := make([]api.Slot, len(l))
	first, last := none, none
	for at, h := range l {
		s := api.Slot{Display: h.Display, Kind: h.Kind, Past: none, Next: none}
		switch h.Kind {
		case api.PictureP:
			s.Past = last
		case api.PictureB:
			s.Past, s.Next = first, last
		}
		told[at] = s
		if h.Kind != api.PictureB {
			first, last = last, h.Display
		}
	}
	return told
}
