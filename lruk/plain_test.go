package lruk_test

import (
	"slices"
	"testing"

	"hatcheck/api"
	"hatcheck/lru"
	"hatcheck/lruk"
)

// P5.1, P5.2 and P5.3: rows of calls as they may come, held against the chapter's words, told as plainly as can be.
func TestAgainstPlain(t *testing.T) {
	for frames := 1; frames <= 6; frames++ {
		for k := 1; k <= api.MaxK; k++ {
			for _, near := range []int{0, 1, 2, 5, 40} {
				for _, kept := range []int{0, 1, 2, frames, 3 * frames} {
					l, e := lruk.New(frames, k, near, kept)
					if e != api.OK {
						t.Fatal(e)
					}
					p := &plain{k: k, near: near, kept: kept, frames: make([]seat, frames), pasts: map[uint32]touches{}}
					d := desk{n: numbers(frames*1000 + k*100 + near*10 + kept), pages: make([]uint32, frames), both: [2]lru.Replacer{l, p}}
					for i := range 400 {
						d.step(t)
						wantSize(t, l, p.Size())
						wantGhosts(t, l, p.Ghosts()...)
						if n := len(l.Ghosts()); n > kept {
							t.Errorf("%d are remembered", n)
						}
						if t.Failed() {
							t.Fatalf("frames %d, k %d, near %d, kept %d, step %d", frames, k, near, kept, i)
						}
					}
				}
			}
		}
	}
}

// touches is a page's past.
type touches struct {
	last  int
	times []int
}

// seat is a frame; its page is 0, if it is empty.
type seat struct {
	page      uint32
	evictable bool
}

type plain struct {
	k, near, kept, time int

	frames     []seat
	pasts      map[uint32]touches
	remembered []uint32
}

func (p *plain) Miss(page uint32) {}

func (p *plain) Access(frame int, page uint32) {
	p.time++
	if p.frames[frame].page != page {
		p.frames[frame] = seat{page: page}
	}
	if i := slices.Index(p.remembered, page); i >= 0 {
		p.remembered = slices.Delete(p.remembered, i, i+1)
	}
	was, known := p.pasts[page]
	now := touches{last: p.time, times: make([]int, p.k)}
	switch {
	case known && p.time-was.last <= p.near:
		now.times = was.times
	case known:
		for i := 1; i < p.k; i++ {
			if was.times[i-1] != 0 {
				now.times[i] = was.times[i-1] + was.last - was.times[0]
			}
		}
		now.times[0] = p.time
	default:
		now.times[0] = p.time
	}
	p.pasts[page] = now
}

func (p *plain) Set(frame int, evictable bool) { p.frames[frame].evictable = evictable }

func (p *plain) Victim(page uint32) (int, bool) {
	frame := p.least(func(was touches) bool { return p.time+1-was.last > p.near })
	if frame < 0 {
		frame = p.least(func(touches) bool { return true })
	}
	if frame < 0 {
		return 0, false
	}
	p.remembered = append(p.remembered, p.frames[frame].page)
	if len(p.remembered) > p.kept {
		delete(p.pasts, p.remembered[0])
		p.remembered = p.remembered[1:]
	}
	p.frames[frame] = seat{}
	return frame, true
}

// least is, of the evictable frames of whose pages that is so, the one whose k-th time, or else last touch, is least, or -1.
func (p *plain) least(so func(touches) bool) int {
	least := -1
	for i, f := range p.frames {
		if !f.evictable || !so(p.pasts[f.page]) {
			continue
		}
		if least < 0 {
			least = i
			continue
		}
		x, y := p.pasts[f.page], p.pasts[p.frames[least].page]
		if a, b := x.times[p.k-1], y.times[p.k-1]; a < b || a == b && x.last < y.last {
			least = i
		}
	}
	return least
}

func (p *plain) Remove(frame int) {
	delete(p.pasts, p.frames[frame].page)
	p.frames[frame] = seat{}
}

func (p *plain) Size() int {
	size := 0
	for _, f := range p.frames {
		if f.evictable {
			size++
		}
	}
	return size
}

func (p *plain) Ghosts() []uint32 { return slices.Clone(p.remembered) }

// desk calls two Replacers alike, in such ways as the chapter of layer 4 says that they are called.
type desk struct {
	n     numbers
	pages []uint32 // by frame; 0: it is empty
	both  [2]lru.Replacer
}

func (d *desk) tell(call func(r lru.Replacer)) {
	for _, r := range d.both {
		call(r)
	}
}

func (d *desk) step(t *testing.T) {
	t.Helper()
	frame := d.n.below(len(d.pages))
	switch kind := d.n.below(10); {
	case kind < 5:
		d.touch(t, uint32(d.n.below(3*len(d.pages)))+1)
	case d.pages[frame] == 0:
	case kind < 9:
		evictable := d.n.below(3) > 0
		d.tell(func(r lru.Replacer) { r.Set(frame, evictable) })
	case d.n.below(3) == 0:
		d.pages[frame] = 0
		d.tell(func(r lru.Replacer) { r.Remove(frame) })
	}
}

// touch brings a page into a frame, where it isn't in one, and tells that it is touched there.
func (d *desk) touch(t *testing.T, page uint32) {
	t.Helper()
	frame := slices.Index(d.pages, page)
	if frame < 0 {
		d.tell(func(r lru.Replacer) { r.Miss(page) })
		if frame = slices.Index(d.pages, 0); frame < 0 {
			if frame = d.victim(t, page); frame < 0 {
				return
			}
			if d.n.below(8) == 0 {
				page = d.pages[frame] // it didn't go, after all
			}
			d.pages[frame] = 0
		}
		if d.n.below(8) == 0 {
			return // nothing comes
		}
	}
	d.pages[frame] = page
	d.tell(func(r lru.Replacer) { r.Access(frame, page) })
}

// victim is the frame that both Replacers say, or -1.
func (d *desk) victim(t *testing.T, page uint32) int {
	t.Helper()
	f, ok := d.both[0].Victim(page)
	g, is := d.both[1].Victim(page)
	if f != g || ok != is {
		t.Fatalf("Victim: %d, %v; want %d, %v", f, ok, g, is)
	}
	if !ok {
		return -1
	}
	return f
}

// numbers are the same ones at each run.
type numbers uint64

func (n *numbers) below(m int) int {
	*n = *n*6364136223846793005 + 1442695040888963407
	return int(uint64(*n)>>33) % m
}
