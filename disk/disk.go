// Package disk is layer 1: pages that stay: see shared/doc/01-disk.md.
package disk

import (
	"container/heap"
	"slices"

	"hatcheck/api"
)

// page is what stands at an id, whether there is a page now or not.
type page struct {
	there bool
	value uint64
}

// access is what can be made to fail: the reads, or the writes, of an id.
type access struct {
	id    uint32
	write bool
}

// Disk has pages, and may fail.
type Disk struct {
	room          int
	pages         []page         // id 1 first; ids behind its end never had a page
	free          idHeap         // those ids within pages that none has
	fails         map[access]int // only counts above 0
	stops         bool
	left          int // OK accesses before it stops, if it stops
	reads, writes int
}

// New is an empty disk of room for so many pages.
func New(room int) (*Disk, api.Errno) {
	if room < 1 || room > api.MaxPages {
		return nil, api.ErrArg
	}
	return &Disk{room: room, fails: map[access]int{}}, api.OK
}

// Alloc makes a page, by the least id that none has.
func (d *Disk) Alloc() (uint32, api.Errno) {
	switch {
	case d == nil:
		return 0, api.ErrFull
	case len(d.free) > 0:
		id := heap.Pop(&d.free).(uint32)
		d.pages[id-1] = page{there: true}
		return id, api.OK
	case len(d.pages) < d.room:
		d.pages = append(d.pages, page{there: true})
		return uint32(len(d.pages)), api.OK
	}
	return 0, api.ErrFull
}

// Free lets a page go; what is to fail of its id stays, for a page that comes there again.
func (d *Disk) Free(id uint32) api.Errno {
	if !d.has(id) {
		return api.ErrUnknown
	}
	d.pages[id-1] = page{}
	heap.Push(&d.free, id)
	return api.OK
}

// Read is what a page holds.
func (d *Disk) Read(id uint32) (uint64, api.Errno) {
	if e := d.attempt(access{id, false}); e != api.OK {
		return 0, e
	}
	d.reads++
	return d.pages[id-1].value, api.OK
}

// Write makes a page hold v.
func (d *Disk) Write(id uint32, v uint64) api.Errno {
	if e := d.attempt(access{id, true}); e != api.OK {
		return e
	}
	d.writes++
	d.pages[id-1].value = v
	return api.OK
}

// Fail makes the next reads, or writes, of an id fail, so many times.
func (d *Disk) Fail(id uint32, write bool, times int) {
	// An id above the room never has a page, so nothing of it need be kept.
	if d == nil || id < 1 || int(id) > d.room {
		return
	}
	if times < 1 {
		delete(d.fails, access{id, write})
		return
	}
	d.fails[access{id, write}] = times
}

// Stop makes each access fail, behind so many more that are OK.
func (d *Disk) Stop(after int) {
	if d != nil {
		d.stops, d.left = true, max(after, 0)
	}
}

// Reads is how many Reads were OK.
func (d *Disk) Reads() int {
	if d == nil {
		return 0
	}
	return d.reads
}

// Writes is how many Writes were OK.
func (d *Disk) Writes() int {
	if d == nil {
		return 0
	}
	return d.writes
}

// Pages is the ids of all pages, rising.
func (d *Disk) Pages() []uint32 {
	if d == nil {
		return nil
	}
	ids := make([]uint32, 0, len(d.pages)-len(d.free))
	for i, p := range d.pages {
		if p.there {
			ids = append(ids, uint32(i+1))
		}
	}
	return ids
}

// Copy is another disk of the same room and pages, on which nothing is to fail.
func (d *Disk) Copy() *Disk {
	if d == nil {
		return nil
	}
	return &Disk{
		room:  d.room,
		pages: slices.Clone(d.pages),
		free:  slices.Clone(d.free),
		fails: map[access]int{},
	}
}

func (d *Disk) has(id uint32) bool {
	return d != nil && id >= 1 && int(id) <= len(d.pages) && d.pages[id-1].there
}

// attempt says whether an access may be made, and counts it against what is to fail or to stop.
func (d *Disk) attempt(a access) api.Errno {
	if !d.has(a.id) {
		return api.ErrUnknown
	}
	if d.stops && d.left == 0 {
		return api.ErrDisk
	}
	if times := d.fails[a]; times > 0 {
		d.Fail(a.id, a.write, times-1)
		return api.ErrDisk
	}
	if d.stops {
		d.left--
	}
	return api.OK
}
