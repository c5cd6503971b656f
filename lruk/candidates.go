package lruk

import "hatcheck/queue"

// candidates are the evictable frames. Those whose last touch may be near are kept apart, so that Victim needn't go past them one by one.
type candidates struct {
	far   *queue.Queue // frames by rank
	fresh *queue.Queue // frames by rank: such as weren't far when it was last asked
	turn  *queue.Queue // the fresh ones by last touch: in the order in which they become far
}

func noCandidates() candidates {
	return candidates{far: queue.New(), fresh: queue.New(), turn: queue.New()}
}

func (c *candidates) len() int { return c.far.Len() + c.fresh.Len() }

func (c *candidates) has(frame int) bool {
	_, far := c.far.Of(frame)
	_, fresh := c.fresh.Of(frame)
	return far || fresh
}

// put lays a frame by its page's rank, wherever it was.
func (c *candidates) put(frame int, rank queue.Key) {
	c.far.Drop(frame)
	c.fresh.Put(frame, rank)
	c.turn.Put(frame, queue.Key{A: rank.B})
}

func (c *candidates) drop(frame int) {
	c.far.Drop(frame)
	c.fresh.Drop(frame)
	c.turn.Drop(frame)
}

// least is the frame of the least rank, of those last touched at that time or earlier; of all, if there is none such.
func (c *candidates) least(until int64) (int, bool) {
	c.age(until)
	if frame, ok := c.far.Least(); ok {
		return frame, true
	}
	return c.fresh.Least()
}

// age makes far what was last touched at that time or earlier. The time goes on alone, so that what is far stays so till it is touched.
func (c *candidates) age(until int64) {
	for {
		frame, ok := c.turn.Least()
		rank, _ := c.fresh.Of(frame)
		if !ok || rank.B > until {
			return
		}
		c.drop(frame)
		c.far.Put(frame, rank)
	}
}
