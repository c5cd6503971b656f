package arc

import (
	"hatcheck/api"
	"hatcheck/ring"
)

// Behind the sides there is one more row of places.
const (
	spare     = sides
	placeRows = sides + 1
)

// ghosts are the remembered pages, by side. Each is in a place, since a page's id may be greater than a ring's things are.
type ghosts struct {
	rows  *ring.Rows     // of places
	pages []uint32       // by place; means nothing of a spare one
	at    map[uint32]int // by page: its place
}

// newGhosts is none, with places for so many.
func newGhosts(room int) (ghosts, api.Errno) {
	rows, e := ring.New(room, placeRows)
	if e != api.OK {
		return ghosts{}, e
	}
	for place := range room {
		rows.Back(spare, place)
	}
	return ghosts{rows: rows, pages: make([]uint32, room), at: map[uint32]int{}}, api.OK
}

// side is the one on which a page is remembered, or -1.
func (g *ghosts) side(page uint32) int {
	place, there := g.at[page]
	if !there {
		return -1
	}
	return g.rows.In(place)
}

// len is how many pages are remembered on a side.
func (g *ghosts) len(side int) int { return g.rows.Len(side) }

// remember makes a page a side's youngest one. There is a spare place as long as they are bound behind each one.
func (g *ghosts) remember(side int, page uint32) {
	// One that lies in two frames, as none should, would have two places else, of which one were never given back.
	g.forget(page)
	place := g.rows.First(spare)
	g.rows.Back(side, place)
	g.pages[place] = page
	g.at[page] = place
}

// bound forgets eldest pages, of the side that has more of them, till there are no more than so many.
func (g *ghosts) bound(most int) {
	for g.len(once)+g.len(again) > most {
		if g.len(once) > g.len(again) {
			g.forgetEldest(once)
		} else {
			g.forgetEldest(again)
		}
	}
}

// forgetEldest forgets a side's eldest page, if there is one.
func (g *ghosts) forgetEldest(side int) {
	if place := g.rows.First(side); place >= 0 {
		g.forget(g.pages[place])
	}
}

// forget says whether a page was remembered; it isn't any more.
func (g *ghosts) forget(page uint32) bool {
	place, there := g.at[page]
	if there {
		g.rows.Back(spare, place)
		delete(g.at, page)
	}
	return there
}

// all is the pages that are remembered on a side, the eldest first.
func (g *ghosts) all(side int) []uint32 {
	all := make([]uint32, 0, g.len(side))
	for _, place := range g.rows.All(side) {
		all = append(all, g.pages[place])
	}
	return all
}
