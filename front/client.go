package front

import (
	"slices"

	"hatcheck/api"
	"hatcheck/model"
)

// client is one who calls, and what it pins.
type client struct {
	number int
	calls  []model.Op
	done   int                 // how many of its calls were done
	pins   map[uint32]int      // by pages, of those that it pins
	next   func(f *Front) bool // its next step: nil: it has none any more
}

func newClient(number int, calls []model.Op) *client {
	c := &client{number: number, calls: slices.Clone(calls), pins: map[uint32]int{}}
	c.goOn()
	return c
}

// goOn makes the next call's first step the next one, if there is such a call.
func (c *client) goOn() {
	c.next = nil
	if c.done < len(c.calls) {
		c.next = c.take
	}
}

// take is a call's first step.
func (c *client) take(f *Front) bool {
	if f.latch != nil {
		return false
	}
	f.latch = c
	c.next = c.do
	return true
}

// do is a call's second step.
func (c *client) do(f *Front) bool {
	// Till the call is done there is no next step: the pool's Replacer may be anybody's, and pick this client meanwhile.
	c.next = nil
	e := Entry{Client: c.number, Index: c.done, Op: c.calls[c.done]}
	e.Answer = c.call(f, e.Op)
	f.log = append(f.log, e)
	c.done++
	c.next = c.give
	return true
}

// give is a call's third step.
func (c *client) give(f *Front) bool {
	f.latch = nil
	c.goOn()
	return true
}

// call does a call of the pool, if the client's own pins let it.
func (c *client) call(f *Front, o model.Op) model.Answer {
	if c.lacks(o) {
		if !f.pool.Has(o.Id) {
			return model.Answer{Err: api.ErrUnknown}
		}
		return model.Answer{Err: api.ErrNotPinned}
	}
	a := model.Call(f.pool, o)
	if count, counts := counting()[o.Kind]; counts && a.Err == api.OK {
		count(c, o, a)
	}
	return a
}

// lacks says whether a call needs a pin that the client doesn't have.
func (c *client) lacks(o model.Op) bool {
	switch o.Kind {
	case model.Unpin, model.Read, model.Write:
		return c.pins[o.Id] == 0
	}
	return false
}

// counting is what calls count that are OK, by their kinds; others count nothing.
func counting() map[int]func(c *client, o model.Op, a model.Answer) {
	return map[int]func(c *client, o model.Op, a model.Answer){
		model.New:   (*client).made,
		model.Fetch: (*client).fetched,
		model.Unpin: (*client).unpinned,
	}
}

func (c *client) made(o model.Op, a model.Answer) { c.pins[a.Id]++ }

func (c *client) fetched(o model.Op, a model.Answer) { c.pins[o.Id]++ }

func (c *client) unpinned(o model.Op, a model.Answer) {
	c.pins[o.Id]--
	if c.pins[o.Id] == 0 {
		delete(c.pins, o.Id)
	}
}
