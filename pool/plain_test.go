package pool_test

import (
	"maps"
	"slices"
	"testing"

	"hatcheck/api"
	"hatcheck/disk"
	"hatcheck/lru"
	"hatcheck/pool"
)

// plain is a pool told as plainly as can be, that a Pool is held against.
type plain struct {
	d      *disk.Disk
	r      lru.Replacer
	frames []one
	scans  int
}

// one is a frame.
type one struct {
	id    uint32 // 0: it is empty
	v     uint64
	pins  int
	dirty bool
}

func (p *plain) has(id uint32) bool { return slices.Contains(p.d.Pages(), id) }

func (p *plain) frame(id uint32) int {
	return slices.IndexFunc(p.frames, func(o one) bool { return o.id == id && id > 0 })
}

func (p *plain) pins(id uint32) int {
	if f := p.frame(id); f >= 0 {
		return p.frames[f].pins
	}
	return 0
}

func (p *plain) free() int {
	return slices.IndexFunc(p.frames, func(o one) bool { return o.pins == 0 })
}

// come is a frame for a page that comes, in which it is, as far as the Replacer knows.
func (p *plain) come(id uint32) (int, api.Errno) {
	p.r.Miss(id)
	f := slices.IndexFunc(p.frames, func(o one) bool { return o.id == 0 })
	if f < 0 {
		ok := false
		f, ok = p.r.Victim(id)
		if !ok || f < 0 || f >= len(p.frames) || p.frames[f].pins > 0 {
			f = p.free()
			p.scans++
			p.r.Remove(f)
		}
		if p.write(f) != api.OK {
			p.r.Access(f, p.frames[f].id)
			p.r.Set(f, true)
			return -1, api.ErrDisk
		}
	}
	p.frames[f] = one{id: id, pins: 1}
	p.r.Access(f, id)
	return f, api.OK
}

func (p *plain) write(f int) api.Errno {
	o := &p.frames[f]
	if o.dirty {
		if p.d.Write(o.id, o.v) != api.OK {
			return api.ErrDisk
		}
		o.dirty = false
	}
	return api.OK
}

func (p *plain) newPage() (uint32, api.Errno) {
	if p.free() < 0 {
		return 0, api.ErrNoFrame
	}
	id, e := p.d.Alloc()
	if e != api.OK {
		return 0, e
	}
	if _, e = p.come(id); e != api.OK {
		p.d.Free(id)
		return 0, e
	}
	return id, api.OK
}

func (p *plain) fetch(id uint32) api.Errno {
	f := p.frame(id)
	if f >= 0 {
		p.r.Access(f, id)
		if p.frames[f].pins == 0 {
			p.r.Set(f, false)
		}
		p.frames[f].pins++
		return api.OK
	}
	if p.free() < 0 {
		return api.ErrNoFrame
	}
	f, e := p.come(id)
	if e != api.OK {
		return e
	}
	v, e := p.d.Read(id)
	if e != api.OK {
		p.frames[f] = one{}
		p.r.Remove(f)
		return e
	}
	p.frames[f].v = v
	return api.OK
}

func (p *plain) remove(id uint32) api.Errno {
	f := p.frame(id)
	if f >= 0 {
		if p.frames[f].pins > 0 {
			return api.ErrPinned
		}
		p.frames[f] = one{}
		p.r.Remove(f)
	}
	return p.d.Free(id)
}

func (p *plain) flushAll() api.Errno {
	answer := api.OK
	for id := range uint32(1000) {
		if f := p.frame(id); f >= 0 && p.write(f) != api.OK {
			answer = api.ErrDisk
		}
	}
	return answer
}

// call is a call of a pool.
type call struct {
	kind int
	id   uint32
	v    uint64
}

// answer is what a call answers.
type answer struct {
	e  api.Errno
	id uint32
	v  uint64
}

// The kinds of calls.
const (
	newPage = iota
	fetch
	unpin
	read
	write
	flush
	flushAll
	remove
	kinds
)

// do does a call of a Pool.
func do(p *pool.Pool, c call) (a answer) {
	switch c.kind {
	case newPage:
		a.id, a.e = p.NewPage()
	case fetch:
		a.e = p.Fetch(c.id)
	case unpin:
		a.e = p.Unpin(c.id)
	case read:
		a.v, a.e = p.Read(c.id)
	case write:
		a.e = p.Write(c.id, c.v)
	case flush:
		a.e = p.Flush(c.id)
	case flushAll:
		a.e = p.FlushAll()
	case remove:
		a.e = p.Delete(c.id)
	}
	return a
}

// do does a call of a plain one.
func (p *plain) do(c call) (a answer) {
	f := p.frame(c.id)
	switch {
	case c.kind == newPage:
		a.id, a.e = p.newPage()
	case c.kind == flushAll:
		a.e = p.flushAll()
	case !p.has(c.id):
		a.e = api.ErrUnknown
	case c.kind == fetch:
		a.e = p.fetch(c.id)
	case c.kind == remove:
		a.e = p.remove(c.id)
	case c.kind == flush && f >= 0:
		a.e = p.write(f)
	case c.kind == flush:
	case p.pins(c.id) == 0:
		a.e = api.ErrNotPinned
	case c.kind == unpin:
		if p.frames[f].pins--; p.frames[f].pins == 0 {
			p.r.Set(f, true)
		}
	case c.kind == read:
		a.v = p.frames[f].v
	case c.kind == write:
		p.frames[f].v, p.frames[f].dirty = c.v, true
	}
	return a
}

// calls are of as many kinds as there are; such as bring pages, and let them go, come more often.
func (n *numbers) call(room int) call {
	often := [...]int{fetch, fetch, fetch, unpin, unpin, unpin, unpin, write, write, read, newPage}
	kind := n.below(kinds + len(often))
	if kind >= kinds {
		kind = often[kind-kinds]
	}
	if kind == remove && n.below(2) == 0 {
		kind = fetch
	}
	return call{kind: kind, id: uint32(n.below(room + 2)), v: uint64(n.below(1000))}
}

// pair is a Pool and a plain one, each with a disk and a Replacer of its own, that are alike.
type pair struct {
	t              *testing.T
	d              *disk.Disk
	p              *pool.Pool
	plain          *plain
	r, q           *recorder
	fetches, wrote int // the calls that may make the disk read and write
}

func newPair(t *testing.T, d *disk.Disk, frames int, r, q lru.Replacer) *pair {
	t.Helper()
	b := benchOn(t, d, frames, r)
	other := &recorder{r: q}
	return &pair{
		t:     t,
		d:     d,
		p:     b.p,
		plain: &plain{d: d.Copy(), r: other, frames: make([]one, frames)},
		r:     b.r,
		q:     other,
	}
}

// step does a call of both.
func (p *pair) step(c call) {
	p.t.Helper()
	there, reads := p.p.Frame(c.id) >= 0, p.d.Reads()
	a, want := do(p.p, c), p.plain.do(c)
	if a != want {
		p.t.Errorf("%v: %v; want %v", c, a, want)
	}
	switch {
	case c.kind == fetch:
		p.fetches++
		if there && p.d.Reads() != reads {
			p.t.Errorf("%v: a page in a frame was read", c)
		}
	case c.kind == write && a.e == api.OK:
		p.wrote++
	}
	if !slices.Equal(p.r.told, p.q.told) {
		p.t.Errorf("%v: told %q; want %q", c, p.r.told, p.q.told)
	}
	p.r.told, p.q.told = nil, nil
}

// alike says whether both are.
func (p *pair) alike(room int) {
	p.t.Helper()
	for id := range uint32(room + 2) {
		if p.p.Has(id) != p.plain.has(id) || p.p.Frame(id) != p.plain.frame(id) || p.p.Pins(id) != p.plain.pins(id) {
			p.t.Errorf("page %d: %v, frame %d, pins %d; want %v, %d, %d", id, p.p.Has(id), p.p.Frame(id), p.p.Pins(id), p.plain.has(id), p.plain.frame(id), p.plain.pins(id))
		}
	}
	if p.p.Scans() != p.plain.scans {
		p.t.Errorf("Scans: %d; want %d", p.p.Scans(), p.plain.scans)
	}
	if p.d.Reads() != p.plain.d.Reads() || p.d.Writes() != p.plain.d.Writes() {
		p.t.Errorf("Reads, Writes: %d, %d; want %d, %d", p.d.Reads(), p.d.Writes(), p.plain.d.Reads(), p.plain.d.Writes())
	}
	if p.d.Reads() > p.fetches || p.d.Writes() > p.wrote {
		p.t.Errorf("Reads, Writes: %d, %d, of %d Fetches and %d Writes", p.d.Reads(), p.d.Writes(), p.fetches, p.wrote)
	}
	if held, want := holds(p.d), holds(p.plain.d); !maps.Equal(held, want) {
		p.t.Errorf("the disk holds %v; want %v", held, want)
	}
}

// holds is what a disk's pages hold.
func holds(d *disk.Disk) map[uint32]uint64 {
	c, held := d.Copy(), map[uint32]uint64{}
	for _, id := range c.Pages() {
		held[id], _ = c.Read(id)
	}
	return held
}

// fault makes both disks fail alike.
func (p *pair) fault(n *numbers, room int) {
	id, write, times, after := uint32(n.below(room+2)), n.below(2) == 0, n.below(4), n.below(6)
	if n.below(8) > 0 {
		p.d.Fail(id, write, times)
		p.plain.d.Fail(id, write, times)
		return
	}
	if n.below(2) == 0 {
		after = 1 << 40 // as good as never
	}
	p.d.Stop(after)
	p.plain.d.Stop(after)
}

// diskOf has so many pages at first, of which some went.
func diskOf(t *testing.T, n *numbers, room int) *disk.Disk {
	t.Helper()
	d := makeDisk(t, room)
	for range n.below(room + 1) {
		id, _ := d.Alloc()
		d.Write(id, uint64(n.below(1000)))
	}
	d.Free(uint32(n.below(room + 1)))
	return d.Copy()
}

// P9.1: rows of calls, with all policies, and all kinds of advice, and with a disk that fails now and then, held against the chapter's words. P9.3 and P9.4: with policies there are no scans; the disk isn't read and written but where it must be.
func TestAgainstPlain(t *testing.T) {
	n := numbers(1)
	for frames := 1; frames <= 7; frames++ {
		for room := 1; room <= 16; room += 3 {
			for faults := range 2 {
				againstPlain(t, &n, frames, room, faults)
			}
		}
	}
}

func againstPlain(t *testing.T, n *numbers, frames, room, faults int) {
	t.Helper()
	same := *n
	known, again := policies(t, frames, n), policies(t, frames, &same)
	trusted := len(known)
	known, again = append(known, advisers(t, frames, n)...), append(again, advisers(t, frames, &same)...)
	for i, k := range known {
		p := newPair(t, diskOf(t, n, room), frames, k.r, again[i].r)
		for step := range 400 {
			if faults > 0 && n.below(12) == 0 {
				p.fault(n, room)
			}
			p.step(n.call(room))
			p.alike(room)
			if i < trusted && p.p.Scans() > 0 {
				t.Error("there was a scan")
			}
			if t.Failed() {
				t.Fatalf("%s: frames %d, room %d, faults %d, step %d", k.name, frames, room, faults, step)
			}
		}
	}
}

// P9.2: whatever the Replacer, also one that panics, calls answer alike, as one map of pages does, and behind FlushAll the disks hold the same.
func TestWhateverReplacer(t *testing.T) {
	n := numbers(2)
	for frames := 1; frames <= 6; frames++ {
		for room := 1; room <= 13; room += 3 {
			whateverReplacer(t, &n, frames, room)
		}
	}
}

func whateverReplacer(t *testing.T, n *numbers, frames, room int) {
	t.Helper()
	broke := numbers(frames)
	known := append(policies(t, frames, n), advisers(t, frames, n)...)
	known = append(known, named{"panics", broken{}}, named{"panics now and then", broken{makeLRU(t, frames), &broke}})
	d := diskOf(t, n, room)
	truth := &book{frames: frames, room: room, pages: map[uint32]*leaf{}}
	for id, v := range holds(d) {
		truth.pages[id] = &leaf{v: v}
	}
	disks, pools := make([]*disk.Disk, len(known)), make([]*pool.Pool, len(known))
	for i, k := range known {
		disks[i] = d.Copy()
		pools[i], _ = pool.New(disks[i], frames, k.r)
	}
	for step := range 1500 {
		c := n.call(room)
		want := truth.do(c)
		for i, k := range known {
			if a := do(pools[i], c); a != want {
				t.Fatalf("%s: frames %d, room %d, step %d, %v: %v; want %v", k.name, frames, room, step, c, a, want)
			}
			for id := range uint32(room + 2) {
				if has, pins := truth.of(id); pools[i].Has(id) != has || pools[i].Pins(id) != pins {
					t.Fatalf("%s: frames %d, room %d, step %d, page %d: %v, %d; want %v, %d", k.name, frames, room, step, id, pools[i].Has(id), pools[i].Pins(id), has, pins)
				}
			}
			if c.kind == flushAll && !maps.Equal(holds(disks[i]), truth.holds()) {
				t.Fatalf("%s: frames %d, room %d, step %d: the disk holds %v; want %v", k.name, frames, room, step, holds(disks[i]), truth.holds())
			}
		}
	}
}

// book is one map of pages.
type book struct {
	frames, room int
	pages        map[uint32]*leaf
}

// leaf is a page.
type leaf struct {
	v    uint64
	pins int
}

func (b *book) of(id uint32) (bool, int) {
	if l := b.pages[id]; l != nil {
		return true, l.pins
	}
	return false, 0
}

func (b *book) holds() map[uint32]uint64 {
	held := map[uint32]uint64{}
	for id, l := range b.pages {
		held[id] = l.v
	}
	return held
}

// full says whether as many pages are pinned as there are frames.
func (b *book) full() bool {
	pinned := 0
	for _, l := range b.pages {
		if l.pins > 0 {
			pinned++
		}
	}
	return pinned == b.frames
}

func (b *book) newPage() answer {
	if b.full() {
		return answer{e: api.ErrNoFrame}
	}
	for id := uint32(1); int(id) <= b.room; id++ {
		if b.pages[id] == nil {
			b.pages[id] = &leaf{pins: 1}
			return answer{id: id}
		}
	}
	return answer{e: api.ErrFull}
}

func (b *book) do(c call) (a answer) {
	l := b.pages[c.id]
	switch {
	case c.kind == newPage:
		return b.newPage()
	case c.kind == flushAll:
	case l == nil:
		a.e = api.ErrUnknown
	case c.kind == flush:
	case c.kind == fetch && l.pins == 0 && b.full():
		a.e = api.ErrNoFrame
	case c.kind == fetch:
		l.pins++
	case c.kind == remove && l.pins > 0:
		a.e = api.ErrPinned
	case c.kind == remove:
		delete(b.pages, c.id)
	case l.pins == 0:
		a.e = api.ErrNotPinned
	case c.kind == unpin:
		l.pins--
	case c.kind == read:
		a.v = l.v
	case c.kind == write:
		l.v = c.v
	}
	return a
}
