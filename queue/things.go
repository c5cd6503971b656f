package queue

import "cmp"

// thing is one with its key.
type thing struct {
	x   int
	key Key
}

// compare is below 0 just if Least tells t ahead of u.
func compare(t, u thing) int {
	return cmp.Or(cmp.Compare(t.key.A, u.key.A), cmp.Compare(t.key.B, u.key.B), cmp.Compare(t.x, u.x))
}

// things are a heap that knows where each thing is, so that one with a new key, or one that goes, needn't be looked for.
type things struct {
	list []thing
	at   map[int]int // by a thing's number: its place in list
}

func (h *things) Len() int { return len(h.list) }

func (h *things) Less(i, j int) bool { return compare(h.list[i], h.list[j]) < 0 }

func (h *things) Swap(i, j int) {
	h.list[i], h.list[j] = h.list[j], h.list[i]
	h.at[h.list[i].x], h.at[h.list[j].x] = i, j
}

func (h *things) Push(t any) {
	// Made here, so that a Queue that New didn't make is an empty one, too.
	if h.at == nil {
		h.at = map[int]int{}
	}
	last := t.(thing)
	h.at[last.x] = len(h.list)
	h.list = append(h.list, last)
}

func (h *things) Pop() any {
	end := len(h.list) - 1
	last := h.list[end]
	h.list = h.list[:end]
	delete(h.at, last.x)
	return last
}
