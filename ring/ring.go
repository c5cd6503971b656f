// Package ring is layer 2: rows of things, linked by their numbers: see shared/doc/02-ring.md.
package ring

import "hatcheck/api"

const (
	maxThings = 200000
	maxRows   = 16
)

// node is a thing, or what closes a row: behind its last thing, and ahead of its first one.
type node struct {
	row        int // from 1 on; 0, as it is made, is in no row
	next, prev int // numbers of nodes; mean nothing of one in no row
}

// Rows are rows of things, each of which is in one of them, or in none.
type Rows struct {
	things int
	nodes  []node // the things, then each row's closing node
	lens   []int  // of each row
}

// New is so many things in no row, and so many empty rows.
func New(things, rows int) (*Rows, api.Errno) {
	if things < 0 || things > maxThings || rows < 1 || rows > maxRows {
		return nil, api.ErrArg
	}
	r := &Rows{things: things, nodes: make([]node, things+rows), lens: make([]int, rows)}
	for row := range rows {
		end := r.closing(row)
		r.nodes[end] = node{row: row + 1, next: end, prev: end}
	}
	return r, api.OK
}

// Front brings x to a row's beginning.
func (r *Rows) Front(row, x int) bool {
	if !r.isRow(row) || !r.isThing(x) {
		return false
	}
	// Out comes first: x may be the row's first thing, and can't come ahead of itself.
	r.Out(x)
	r.place(x, r.nodes[r.closing(row)].next)
	return true
}

// Back brings x to a row's end.
func (r *Rows) Back(row, x int) bool {
	if !r.isRow(row) || !r.isThing(x) {
		return false
	}
	r.Out(x)
	r.place(x, r.closing(row))
	return true
}

// Before brings x just ahead of another thing that is in a row.
func (r *Rows) Before(x, other int) bool {
	if !r.isThing(x) || r.In(other) < 0 || x == other {
		return false
	}
	r.Out(x)
	r.place(x, other)
	return true
}

// Out takes x out of its row.
func (r *Rows) Out(x int) bool {
	row := r.In(x)
	if row < 0 {
		return false
	}
	n := r.nodes[x]
	r.nodes[n.prev].next = n.next
	r.nodes[n.next].prev = n.prev
	r.nodes[x] = node{}
	r.lens[row]--
	return true
}

// In is the row that x is in, or -1.
func (r *Rows) In(x int) int {
	if !r.isThing(x) {
		return -1
	}
	return r.nodes[x].row - 1
}

// First is a row's first thing, or -1.
func (r *Rows) First(row int) int {
	if !r.isRow(row) {
		return -1
	}
	return r.thing(r.nodes[r.closing(row)].next)
}

// Last is a row's last thing, or -1.
func (r *Rows) Last(row int) int {
	if !r.isRow(row) {
		return -1
	}
	return r.thing(r.nodes[r.closing(row)].prev)
}

// Next is the thing behind x in its row, or -1.
func (r *Rows) Next(x int) int {
	if r.In(x) < 0 {
		return -1
	}
	return r.thing(r.nodes[x].next)
}

// Prev is the thing ahead of x in its row, or -1.
func (r *Rows) Prev(x int) int {
	if r.In(x) < 0 {
		return -1
	}
	return r.thing(r.nodes[x].prev)
}

// Len is how many things are in a row.
func (r *Rows) Len(row int) int {
	if !r.isRow(row) {
		return 0
	}
	return r.lens[row]
}

// All is a row's things, from the first one on.
func (r *Rows) All(row int) []int {
	all := make([]int, 0, r.Len(row))
	for x := r.First(row); x >= 0; x = r.Next(x) {
		all = append(all, x)
	}
	return all
}

func (r *Rows) isRow(row int) bool { return r != nil && row >= 0 && row < len(r.lens) }

func (r *Rows) isThing(x int) bool { return r != nil && x >= 0 && x < r.things }

// closing is the number of a row's closing node.
func (r *Rows) closing(row int) int { return r.things + row }

// thing is the thing that a node is, or -1 of one that closes a row.
func (r *Rows) thing(n int) int {
	if !r.isThing(n) {
		return -1
	}
	return n
}

// place links x, that is in no row, just ahead of a node that is in one.
func (r *Rows) place(x, at int) {
	row, prev := r.nodes[at].row, r.nodes[at].prev
	r.nodes[x] = node{row: row, next: at, prev: prev}
	r.nodes[prev].next = x
	r.nodes[at].prev = x
	r.lens[row-1]++
}
