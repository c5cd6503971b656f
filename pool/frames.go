package pool

import (
	"cmp"
	"slices"

	"hatcheck/api"
	"hatcheck/lru"
)

// frame is a place for a page.
type frame struct {
	id    uint32 // 0: it is empty
	value uint64
	pins  int
	dirty bool // the disk may hold something else
}

// allPinned says whether each frame has a pinned page.
func (p *Pool) allPinned() bool { return p.empty.Len() == 0 && p.idle.Len() == 0 }

// find is the frame of a page, or none.
func (p *Pool) find(id uint32) (int, api.Errno) {
	if p == nil {
		return none, api.ErrArg
	}
	f, there := p.places[id]
	if !there {
		return none, api.ErrUnknown
	}
	return f, api.OK
}

// held is the frame of a page that is pinned.
func (p *Pool) held(id uint32) (int, api.Errno) {
	f, e := p.find(id)
	switch {
	case e != api.OK:
		return none, e
	case f == none || p.frames[f].pins == 0:
		return none, api.ErrNotPinned
	}
	return f, api.OK
}

// place is an empty frame for a page that comes, where not each one is pinned.
func (p *Pool) place(id uint32) (int, api.Errno) {
	p.tell(func(r lru.Replacer) { r.Miss(id) })
	if f := p.empty.First(); f >= 0 {
		return f, api.OK
	}
	f := p.victim(id)
	if e := p.clean(f); e != api.OK {
		page := p.frames[f].id
		p.tell(func(r lru.Replacer) { r.Access(f, page) })
		p.tell(func(r lru.Replacer) { r.Set(f, true) })
		return none, e
	}
	p.vacate(f)
	return f, api.OK
}

// victim is the frame whose page is to go, as the one of that id comes.
func (p *Pool) victim(id uint32) int {
	f, ok := p.ask(id)
	if ok && p.idle.Has(f) {
		return f
	}
	p.scans++
	f = p.idle.First()
	p.tell(func(r lru.Replacer) { r.Remove(f) })
	return f
}

// enter brings a page into an empty frame.
func (p *Pool) enter(f int, id uint32) {
	p.frames[f] = frame{id: id, pins: 1}
	p.places[id] = f
	p.empty.Drop(f)
	p.tell(func(r lru.Replacer) { r.Access(f, id) })
}

// touch pins the page in a frame once more.
func (p *Pool) touch(f int) {
	id := p.frames[f].id
	p.tell(func(r lru.Replacer) { r.Access(f, id) })
	if p.frames[f].pins == 0 {
		p.idle.Drop(f)
		p.tell(func(r lru.Replacer) { r.Set(f, false) })
	}
	p.frames[f].pins++
}

// vacate makes a frame empty.
func (p *Pool) vacate(f int) {
	p.places[p.frames[f].id] = none
	p.frames[f] = frame{}
	p.idle.Drop(f)
	p.empty.Add(f)
}

// remove makes a frame empty, where the Replacer doesn't know yet that its page goes.
func (p *Pool) remove(f int) {
	p.vacate(f)
	p.tell(func(r lru.Replacer) { r.Remove(f) })
}

// clean makes the disk hold what the page in a frame holds.
func (p *Pool) clean(f int) api.Errno {
	fr := &p.frames[f]
	if !fr.dirty {
		return api.OK
	}
	if e := p.disk.Write(fr.id, fr.value); e != api.OK {
		return e
	}
	fr.dirty = false
	return api.OK
}

// dirty is the frames of all dirty pages, rising by the pages' ids.
func (p *Pool) dirty() []int {
	var frames []int
	for f := range p.frames {
		if p.frames[f].dirty {
			frames = append(frames, f)
		}
	}
	slices.SortFunc(frames, func(f, g int) int { return cmp.Compare(p.frames[f].id, p.frames[g].id) })
	return frames
}
