package twoq

import (
	"hatcheck/api"
	"hatcheck/ring"
)

// The rows of places.
const (
	taken = iota // the page that was remembered first is first
	spare
	placeRows
)

// ghosts are the remembered pages. Each is in a place, since a page's id may be greater than a ring's things are.
type ghosts struct {
	rows  *ring.Rows     // of places
	pages []uint32       // by place; means nothing of a spare one
	at    map[uint32]int // by page: its place
}

// newGhosts is none, with places for so many.
func newGhosts(room int) (ghosts, api.Errno) {
	rows, e := ring.New(room, placeRows)
	if e != api.OK {
		return ghosts{}, e
	}
	for place := range room {
		rows.Back(spare, place)
	}
	return ghosts{rows: rows, pages: make([]uint32, room), at: map[uint32]int{}}, api.OK
}

// remember makes a page the youngest one. If no place is spare, it takes that of the eldest one, which is forgotten; if there is no place at all, it isn't remembered itself.
func (g *ghosts) remember(page uint32) {
	place := g.rows.First(spare)
	if place < 0 {
		place = g.forgetEldest()
	}
	if place < 0 {
		return
	}
	g.rows.Back(taken, place)
	g.pages[place] = page
	g.at[page] = place
}

// forgetEldest is the eldest page's place, or -1; that page isn't remembered any more.
func (g *ghosts) forgetEldest() int {
	place := g.rows.First(taken)
	if place >= 0 {
		g.forget(g.pages[place])
	}
	return place
}

// forget says whether a page was remembered; it isn't any more.
func (g *ghosts) forget(page uint32) bool {
	place, there := g.at[page]
	if there {
		g.rows.Back(spare, place)
		delete(g.at, page)
	}
	return there
}

// all is the remembered pages, the eldest first.
func (g *ghosts) all() []uint32 {
	all := make([]uint32, 0, g.rows.Len(taken))
	for _, place := range g.rows.All(taken) {
		all = append(all, g.pages[place])
	}
	return all
}
