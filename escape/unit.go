package escape

import (
	"clapboard/api"
)

// start are the bytes ahead of each unit.
const start = "\x00\x00\x01"

// Join puts units one behind the other, each escaped, and behind a start.
func Join(l [][]byte) []byte {
	var out []byte
	for _, u := range l {
		out = append(out, start...)
		out = append(out, Escape(u)...)
	}
	return out
}

// Split is the list of which b is Join; ErrEscape if there is none.
func Split(b []byte) ([][]byte, api.Errno) {
	if find(b, 0) != 0 {
		return nil, api.ErrEscape
	}
	var l [][]byte
	next := units(b)
	for escaped, ok := next(); ok; escaped, ok = next() {
		u, e := Unescape(escaped)
		if e != api.OK {
			return nil, e
		}
		l = append(l, u)
	}
	return l, api.OK
}

// units is a closure that tells one unit a call, still escaped, and false behind the last one. b begins with a start, or has no bytes.
func units(b []byte) func() ([]byte, bool) {
	at := 0
	return func() ([]byte, bool) {
		if at == len(b) {
			return nil, false
		}
		from := at + len(start)
		at = find(b, from)
		return cut(b, from, at), true
	}
}

// find is the first place, from one on, where a start stands; the end of b without any, for the last unit goes up to there.
func find(b []byte, from int) int {
search:
	for at := from; at+len(start) <= len(b); at++ {
		for i := range len(start) {
			if b[at+i] != start[i] {
				continue search
			}
		}
		return at
	}
	return len(b)
}
