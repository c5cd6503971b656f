package disk

// idHeap has the least id first, so that Alloc needn't look through all ids for it.
type idHeap []uint32

func (h idHeap) Len() int { return len(h) }

func (h idHeap) Less(i, j int) bool { return h[i] < h[j] }

func (h idHeap) Swap(i, j int) { h[i], h[j] = h[j], h[i] }

func (h *idHeap) Push(x any) { *h = append(*h, x.(uint32)) }

func (h *idHeap) Pop() any {
	last := len(*h) - 1
	id := (*h)[last]
	*h = (*h)[:last]
	return id
}
