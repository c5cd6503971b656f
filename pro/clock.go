package pro

import (
	"hatcheck/api"
	"hatcheck/ring"
)

// The hands.
const (
	hotHand = iota
	coldHand
	testHand
	hands
)

// The rows of entries. That of a row behind whose end its beginning comes is a ring.
const (
	laid = iota
	spare
	entryRows
)

// none is no entry, and no frame.
const none = -1

// entry is what is known of a page.
type entry struct {
	page      uint32
	frame     int // none: it is a ghost
	hot       bool
	touched   bool // false of a ghost
	test      bool // it is in test: such are cold
	evictable bool // false of a ghost
}

// clock is a ring of entries, with hands that are at some of them.
type clock struct {
	rows    *ring.Rows
	entries []entry    // by their numbers in rows; a spare one means nothing
	hands   [hands]int // each is at an entry; means nothing, where none is laid
}

// newClock is one without entries, but with room for so many.
func newClock(room int) (clock, api.Errno) {
	rows, e := ring.New(room, entryRows)
	if e != api.OK {
		return clock{}, e
	}
	for x := range room {
		rows.Back(spare, x)
	}
	return clock{rows: rows, entries: make([]entry, room)}, api.OK
}

// len is how many entries there are.
func (c *clock) len() int { return c.rows.Len(laid) }

// next is the entry behind one that is laid: it itself, where it is alone.
func (c *clock) next(x int) int {
	if n := c.rows.Next(x); n >= 0 {
		return n
	}
	return c.rows.First(laid)
}

// move brings a hand to the next entry.
func (c *clock) move(hand int) { c.hands[hand] = c.next(c.hands[hand]) }

// come lays an entry at the end, and answers its number. There is a spare one as long as no more come than there is room for.
func (c *clock) come(e entry) int {
	x := c.rows.First(spare)
	c.entries[x] = e
	c.lay(x)
	return x
}

// lay brings an entry that isn't laid to the end.
func (c *clock) lay(x int) {
	if c.len() == 0 {
		c.rows.Back(laid, x)
		c.hands = [hands]int{x, x, x}
		return
	}
	c.rows.Before(x, c.hands[hotHand])
}

// leave takes an entry out of the ring; it isn't spare by that.
func (c *clock) leave(x int) {
	for hand, at := range c.hands {
		if at == x {
			c.move(hand)
		}
	}
	c.rows.Out(x)
}

// again brings an entry to the end.
func (c *clock) again(x int) {
	c.leave(x)
	c.lay(x)
}

// drop makes an entry go.
func (c *clock) drop(x int) {
	c.leave(x)
	c.rows.Back(spare, x)
}
