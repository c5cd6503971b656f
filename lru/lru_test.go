package lru_test

import (
	"math"
	"slices"
	"testing"

	"hatcheck/api"
	"hatcheck/lru"
)

func make1(t *testing.T, frames int) *lru.LRU {
	t.Helper()
	l, e := lru.New(frames)
	if l == nil || e != api.OK {
		t.Fatalf("New(%d): %v, %v", frames, l, e)
	}
	return l
}

// come brings a page into a frame that is empty.
func come(r lru.Replacer, frame int, page uint32) {
	r.Miss(page)
	r.Access(frame, page)
}

// filled has page i+1 in each frame i, come in that order, all evictable.
func filled(t *testing.T, frames int) *lru.LRU {
	t.Helper()
	l := make1(t, frames)
	for i := range frames {
		come(l, i, uint32(i+1))
		l.Set(i, true)
	}
	wantSize(t, l, frames)
	return l
}

func wantSize(t *testing.T, r lru.Replacer, size int) {
	t.Helper()
	if n := r.Size(); n != size {
		t.Errorf("Size: %d; want %d", n, size)
	}
}

func wantVictim(t *testing.T, r lru.Replacer, frame int, ok bool) {
	t.Helper()
	r.Miss(99)
	if f, is := r.Victim(99); f != frame || is != ok {
		t.Errorf("Victim: %d, %v; want %d, %v", f, is, frame, ok)
	}
}

// wantVictims asks for all victims, one behind the other, none of whose successors come.
func wantVictims(t *testing.T, r lru.Replacer, frames ...int) {
	t.Helper()
	for i, f := range frames {
		wantSize(t, r, len(frames)-i)
		wantVictim(t, r, f, true)
	}
	wantSize(t, r, 0)
	wantVictim(t, r, 0, false)
}

// P4.1, New.
func TestNew(t *testing.T) {
	for _, frames := range []int{0, -1, api.MaxFrames + 1, math.MaxInt, math.MinInt} {
		if l, e := lru.New(frames); l != nil || e != api.ErrArg {
			t.Errorf("New(%d): %v, %v; want nil, ErrArg", frames, l, e)
		}
	}
	for _, frames := range []int{1, 2, api.MaxFrames} {
		wantVictims(t, make1(t, frames))
		l := make1(t, frames)
		come(l, frames-1, 1)
		l.Set(frames-1, true)
		wantVictims(t, l, frames-1)
	}
}

// P4.1: the chapter's example.
func TestExample(t *testing.T) {
	l := filled(t, 3)
	l.Access(0, 1)
	l.Miss(4)
	if f, ok := l.Victim(4); f != 1 || !ok {
		t.Errorf("Victim(4): %d, %v; want 1, true", f, ok)
	}
}

// P4.1: what counts is the last Access, not how many there were, nor when the frame was Set.
func TestLastAccess(t *testing.T) {
	l := filled(t, 4)
	for _, frame := range []int{1, 3, 3, 3, 1, 0} {
		l.Access(frame, uint32(frame+1))
	}
	wantVictims(t, l, 2, 3, 1, 0)
	l = make1(t, 4)
	for _, frame := range []int{2, 0, 3, 1} {
		come(l, frame, uint32(frame+1))
	}
	for _, frame := range []int{1, 3, 2, 0} {
		l.Set(frame, true)
	}
	for _, frame := range []int{2, 0} {
		l.Set(frame, false)
		l.Set(frame, true)
	}
	wantVictims(t, l, 2, 0, 3, 1)
}

// P4.1: a page that came isn't evictable at first; an Access of one that is there leaves that as it is.
func TestEvictable(t *testing.T) {
	l := make1(t, 2)
	come(l, 0, 1)
	come(l, 1, 2)
	wantVictims(t, l)
	l.Access(0, 1)
	wantSize(t, l, 0)
	l.Set(0, true)
	l.Access(0, 1)
	wantSize(t, l, 1)
	wantVictims(t, l, 0)
	come(l, 0, 3)
	wantVictims(t, l)
	l.Set(1, true)
	l.Set(0, true)
	wantVictims(t, l, 1, 0)
}

// P4.1, Size: a Set that says the same again counts once.
func TestSetAgain(t *testing.T) {
	l := filled(t, 3)
	for range 2 {
		l.Set(1, true)
		wantSize(t, l, 3)
	}
	for range 2 {
		l.Set(1, false)
		wantSize(t, l, 2)
	}
	wantVictims(t, l, 0, 2)
}

// P4.2: what isn't evictable never goes, however long ago it was touched.
func TestHeld(t *testing.T) {
	l := filled(t, 4)
	l.Set(0, false)
	l.Set(2, false)
	wantVictims(t, l, 1, 3)
	l.Set(2, true)
	wantVictims(t, l, 2)
	l.Set(0, true)
	wantVictims(t, l, 0)
}

// P4.1: where Victim is false nothing changes.
func TestFalseChangesNothing(t *testing.T) {
	l := make1(t, 3)
	for i := range 3 {
		come(l, i, uint32(i+1))
	}
	for range 3 {
		wantVictim(t, l, 0, false)
	}
	for i := range 3 {
		l.Set(i, true)
	}
	wantVictims(t, l, 0, 1, 2)
}

// P4.1: a page that was removed is in no frame, and the next one in that frame isn't evictable at first.
func TestRemove(t *testing.T) {
	l := filled(t, 3)
	l.Remove(1)
	wantSize(t, l, 2)
	come(l, 1, 4)
	wantSize(t, l, 2)
	l.Set(1, true)
	l.Set(0, false)
	l.Remove(0)
	wantVictims(t, l, 2, 1)
	come(l, 0, 5)
	wantVictims(t, l)
	l.Set(0, true)
	wantVictims(t, l, 0)
}

// P4.1: behind a Miss, or a Victim, the page needn't come.
func TestComesNot(t *testing.T) {
	l := filled(t, 2)
	l.Miss(3)
	wantVictim(t, l, 0, true)
	l.Miss(4)
	wantVictims(t, l, 1)
	come(l, 1, 5)
	come(l, 0, 6)
	l.Set(0, true)
	l.Set(1, true)
	wantVictims(t, l, 1, 0)
}

// P4.1: one that went may be accessed at once, in the frame that it had; that Access is its last one, and it is evictable once it is Set.
func TestStaysAfterAll(t *testing.T) {
	l := filled(t, 3)
	wantVictim(t, l, 0, true)
	l.Access(0, 1)
	wantSize(t, l, 2)
	l.Set(0, true)
	wantVictims(t, l, 1, 2, 0)
}

// P4.1 and P4.3: no page is remembered, whatever went.
func TestNoGhosts(t *testing.T) {
	l := filled(t, 3)
	l.Remove(2)
	wantVictim(t, l, 0, true)
	if g := l.Ghosts(); len(g) != 0 {
		t.Error(g)
	}
	_ = append(l.Ghosts(), 9)
	if g := l.Ghosts(); len(g) != 0 {
		t.Error(g)
	}
}

// P4.3: one LRU has nothing of another one.
func TestApart(t *testing.T) {
	l, m := filled(t, 2), filled(t, 2)
	m.Access(0, 1)
	wantVictim(t, m, 1, true)
	wantVictims(t, l, 0, 1)
	wantVictims(t, m, 0)
}

// P1 of this layer: calls of which nothing else is promised end, of a nil LRU and of one that New didn't make, too.
func TestOtherCallsEnd(t *testing.T) {
	odd := []int{0, 1, 2, 3, -1, 4, api.MaxFrames, math.MinInt, math.MaxInt}
	pages := []uint32{0, 1, math.MaxUint32}
	for _, l := range []*lru.LRU{nil, {}, filled(t, 3)} {
		for _, frame := range odd {
			for _, page := range pages {
				l.Remove(frame)
				l.Set(frame, true)
				l.Victim(page)
				l.Access(frame, page)
				l.Access(frame, page+1)
				l.Set(frame, true)
				l.Miss(page)
				l.Miss(page)
				l.Remove(frame)
				l.Remove(frame)
				l.Set(frame, false)
				l.Size()
				l.Ghosts()
			}
		}
	}
	for _, l := range []*lru.LRU{nil, {}} {
		l.Access(0, 1)
		l.Set(0, true)
		wantVictims(t, l)
		if g := l.Ghosts(); len(g) != 0 {
			t.Error(g)
		}
	}
}

// P4.1: as many frames as there may be.
func TestAllFrames(t *testing.T) {
	l := filled(t, api.MaxFrames)
	// 7 and MaxFrames have no divisor in common, so that this comes by each frame, out of order.
	for i := range api.MaxFrames {
		l.Access(i*7%api.MaxFrames, uint32(i+1))
	}
	for i := range api.MaxFrames {
		if f, ok := l.Victim(1); f != i*7%api.MaxFrames || !ok {
			t.Fatal(i, f, ok)
		}
	}
	wantVictims(t, l)
}

// P4.1 and P4.2: rows of calls as they may come, held against a list.
func TestAgainstPlain(t *testing.T) {
	for frames := 1; frames <= 8; frames++ {
		d := desk{n: numbers(frames), pages: make([]uint32, frames)}
		d.both = [2]lru.Replacer{make1(t, frames), &plain{evictable: map[int]bool{}}}
		for i := range 4000 {
			d.step(t)
			wantSize(t, d.both[0], d.both[1].Size())
			if len(d.both[0].Ghosts()) != 0 {
				t.Error("there are Ghosts")
			}
			if t.Failed() {
				t.Fatalf("frames %d, step %d", frames, i)
			}
		}
	}
}

// plain is a Replacer told as plainly as can be.
type plain struct {
	order     []int // the frames that have a page, the one not touched for longest first
	evictable map[int]bool
}

func (p *plain) Miss(page uint32) {}

func (p *plain) Access(frame int, page uint32) {
	p.order = append(slices.DeleteFunc(p.order, func(f int) bool { return f == frame }), frame)
}

func (p *plain) Set(frame int, evictable bool) { p.evictable[frame] = evictable }

func (p *plain) Victim(page uint32) (int, bool) {
	for _, f := range p.order {
		if p.evictable[f] {
			p.Remove(f)
			return f, true
		}
	}
	return 0, false
}

func (p *plain) Remove(frame int) {
	p.order = slices.DeleteFunc(p.order, func(f int) bool { return f == frame })
	p.evictable[frame] = false
}

func (p *plain) Size() int {
	size := 0
	for _, f := range p.order {
		if p.evictable[f] {
			size++
		}
	}
	return size
}

func (p *plain) Ghosts() []uint32 { return nil }

// desk calls two Replacers alike, in such ways as the chapter says that they are called.
type desk struct {
	n     numbers
	pages []uint32 // by frame; 0: it is empty
	both  [2]lru.Replacer
}

func (d *desk) tell(call func(r lru.Replacer)) {
	for _, r := range d.both {
		call(r)
	}
}

func (d *desk) step(t *testing.T) {
	t.Helper()
	frame := d.n.below(len(d.pages))
	switch kind := d.n.below(10); {
	case kind < 5:
		d.touch(t, uint32(d.n.below(2*len(d.pages)))+1)
	case d.pages[frame] == 0:
	case kind < 9:
		evictable := d.n.below(3) > 0
		d.tell(func(r lru.Replacer) { r.Set(frame, evictable) })
	default:
		d.pages[frame] = 0
		d.tell(func(r lru.Replacer) { r.Remove(frame) })
	}
}

// touch brings a page into a frame, where it isn't in one, and tells that it is touched there.
func (d *desk) touch(t *testing.T, page uint32) {
	t.Helper()
	frame := slices.Index(d.pages, page)
	if frame < 0 {
		d.tell(func(r lru.Replacer) { r.Miss(page) })
		if frame = slices.Index(d.pages, 0); frame < 0 {
			if frame = d.victim(t, page); frame < 0 {
				return
			}
			if d.n.below(8) == 0 {
				page = d.pages[frame] // it didn't go, after all
			}
			d.pages[frame] = 0
		}
		if d.n.below(8) == 0 {
			return // nothing comes
		}
	}
	d.pages[frame] = page
	d.tell(func(r lru.Replacer) { r.Access(frame, page) })
}

// victim is the frame that both Replacers say, or -1.
func (d *desk) victim(t *testing.T, page uint32) int {
	t.Helper()
	f, ok := d.both[0].Victim(page)
	g, is := d.both[1].Victim(page)
	if f != g || ok != is {
		t.Fatalf("Victim: %d, %v; want %d, %v", f, ok, g, is)
	}
	if !ok {
		return -1
	}
	return f
}

// numbers are the same ones at each run.
type numbers uint64

func (n *numbers) below(m int) int {
	*n = *n*6364136223846793005 + 1442695040888963407
	return int(uint64(*n)>>33) % m
}
