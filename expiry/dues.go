package expiry

import (
	"container/heap"

	"nearhand/api"
)

// due is one of a heap, and knows where it stands there: so it is found by
// its key alone when it is put anew, or goes.
type due struct {
	api.Due
	place int
}

// dues are a heap: the one that ends first stands at place 0.
type dues []*due

func (h dues) Len() int { return len(h) }

func (h dues) Less(i, j int) bool {
	if h[i].When != h[j].When {
		return h[i].When < h[j].When
	}
	return h[i].Key < h[j].Key
}

func (h dues) Swap(i, j int) {
	h[i], h[j] = h[j], h[i]
	h[i].place, h[j].place = i, j
}

func (h *dues) Push(d any) {
	last := d.(*due)
	last.place = len(*h)
	*h = append(*h, last)
}

func (h *dues) Pop() any {
	n := len(*h) - 1
	last := (*h)[n]
	(*h)[n] = nil // what has gone isn't kept behind the end
	*h = (*h)[:n]
	return last
}

// first are the first ones, in order, that end by now, at most so many. The
// heap stays as it is: each one's followers are looked at only when its own
// turn has come, so that a call for few doesn't go through all.
func (h dues) first(now int64, most int) []api.Due {
	var l []api.Due
	t := &turns{of: h}
	t.follow(0)
	for len(t.places) > 0 && len(l) < most {
		place := heap.Pop(t).(int)
		if h[place].When > now {
			break
		}
		l = append(l, h[place].Due)
		t.follow(2*place + 1)
		t.follow(2*place + 2)
	}
	return l
}

// turns are places in a heap, in a heap of their own: the one whose due ends
// first comes out first.
type turns struct {
	of     dues
	places []int
}

// follow: a place comes in, if it is one.
func (t *turns) follow(place int) {
	if place < len(t.of) {
		heap.Push(t, place)
	}
}

func (t *turns) Len() int { return len(t.places) }

func (t *turns) Less(i, j int) bool { return t.of.Less(t.places[i], t.places[j]) }

func (t *turns) Swap(i, j int) { t.places[i], t.places[j] = t.places[j], t.places[i] }

func (t *turns) Push(place any) { t.places = append(t.places, place.(int)) }

func (t *turns) Pop() any {
	n := len(t.places) - 1
	last := t.places[n]
	t.places = t.places[:n]
	return last
}
