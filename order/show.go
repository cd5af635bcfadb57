package order

import (
	"container/heap"

	"clapboard/api"
)

// picture is one that is held: its place as the film is shown, and its place as it is told.
type picture struct {
	shown int
	told  int
}

// held are the pictures that were told, and not taken out: a heap, so that the one that is shown first is at hand.
type held []picture

func (h held) Len() int           { return len(h) }
func (h held) Less(i, j int) bool { return h[i].shown < h[j].shown }
func (h held) Swap(i, j int)      { h[i], h[j] = h[j], h[i] }

// Push is for container/heap: heap.Push puts the picture where it belongs.
func (h *held) Push(x any) {
	*h = append(*h, x.(picture))
}

// Pop is for container/heap: heap.Pop has laid the least one last.
func (h *held) Pop() any {
	last := len(*h) - 1
	p := (*h)[last]
	*h = (*h)[:last]
	return p
}

// Show are, place by place as a film is shown, where its pictures are told; and how many are held at most.
func Show(l []int) ([]int, int, api.Errno) {
	if !eachOnce(l) {
		return nil, 0, api.ErrOrder
	}
	places := make([]int, 0, len(l))
	most := 0
	h := &held{}
	for told, shown := range l {
		heap.Push(h, picture{shown: shown, told: told})
		most = max(most, h.Len())
		// As many were taken out as places are known: that is the least one that was not.
		for h.Len() > 0 && (*h)[0].shown == len(places) {
			places = append(places, heap.Pop(h).(picture).told)
		}
	}
	return places, most, api.OK
}

// eachOnce tells whether a list has, of 1 to MaxFrames members, each of 0 to as many less 1 once.
func eachOnce(l []int) bool {
	if !within(len(l), 1, api.MaxFrames) {
		return false
	}
	seen := make([]bool, len(l))
	for _, n := range l {
		if !within(n, 0, len(l)-1) || seen[n] {
			return false
		}
		seen[n] = true
	}
	return true
}
