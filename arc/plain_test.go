package arc_test

import (
	"slices"
	"testing"

	"hatcheck/api"
	"hatcheck/arc"
	"hatcheck/lru"
)

// P7.1, P7.2 and P7.3: rows of calls as they may come, held against the chapter's words, told as plainly as can be.
func TestAgainstPlain(t *testing.T) {
	for frames := 1; frames <= 9; frames++ {
		for pages := 1; pages <= 4; pages++ { // for each frame
			for held := range 3 {
				againstPlain(t, frames, pages*frames+1, held)
			}
		}
	}
}

func againstPlain(t *testing.T, frames, pages, held int) {
	t.Helper()
	a, e := arc.New(frames)
	if e != api.OK {
		t.Fatal(e)
	}
	p := &plain{c: frames, pages: map[int]uint32{}, evictable: map[int]bool{}}
	d := desk{n: numbers(frames*1000 + pages*10 + held), most: pages, held: held, pages: make([]uint32, frames), both: [2]lru.Replacer{a, p}}
	for i := range 4000 {
		d.step(t)
		wantSize(t, a, p.Size())
		wantGhosts(t, a, p.Ghosts()...)
		wantTarget(t, a, p.p)
		if n := len(a.Ghosts()); n > frames {
			t.Errorf("%d are remembered", n)
		}
		if n := a.Target(); n < 0 || n > frames {
			t.Errorf("the target is %d", n)
		}
		if t.Failed() {
			t.Fatalf("frames %d, pages %d, held %d, step %d", frames, pages, held, i)
		}
	}
}

// plain has each of its lists with the eldest first.
type plain struct {
	c, p      int
	t1, t2    []int // of frames
	b1, b2    []uint32
	pages     map[int]uint32 // by frame
	evictable map[int]bool
}

// without is a list without one of it, and whether it had that.
func without[T comparable](list []T, one T) ([]T, bool) {
	i := slices.Index(list, one)
	if i < 0 {
		return list, false
	}
	return slices.Delete(slices.Clone(list), i, i+1), true
}

// behindFirst is a list without its first one, if there is one.
func behindFirst[T any](list []T) []T {
	return list[min(1, len(list)):]
}

func (p *plain) Miss(page uint32) {
	if slices.Contains(p.b1, page) {
		p.p = min(p.p+max(1, len(p.b2)/len(p.b1)), p.c)
	} else if slices.Contains(p.b2, page) {
		p.p = max(p.p-max(1, len(p.b1)/len(p.b2)), 0)
	} else if len(p.t1)+len(p.b1) >= p.c {
		p.b1 = behindFirst(p.b1)
	} else if len(p.t1)+len(p.t2)+len(p.b1)+len(p.b2) >= 2*p.c {
		p.b2 = behindFirst(p.b2)
	}
}

func (p *plain) Access(frame int, page uint32) {
	p.pages[frame] = page
	if slices.Contains(p.t1, frame) || slices.Contains(p.t2, frame) {
		p.t1, _ = without(p.t1, frame)
		p.t2, _ = without(p.t2, frame)
		p.t2 = append(p.t2, frame)
		return
	}
	left1, was1 := without(p.b1, page)
	left2, was2 := without(p.b2, page)
	p.b1, p.b2 = left1, left2
	if was1 || was2 {
		p.t2 = append(p.t2, frame)
	} else {
		p.t1 = append(p.t1, frame)
	}
}

func (p *plain) Set(frame int, evictable bool) { p.evictable[frame] = evictable }

func (p *plain) Victim(page uint32) (int, bool) {
	known1, known2 := slices.Contains(p.b1, page), slices.Contains(p.b2, page)
	order := slices.Concat(p.t2, p.t1)
	if len(p.t1) > 0 && (len(p.t1) > p.p || len(p.t1) == p.p && known2) {
		order = slices.Concat(p.t1, p.t2)
	}
	i := slices.IndexFunc(order, func(frame int) bool { return p.evictable[frame] })
	if i < 0 {
		return 0, false
	}
	frame := order[i]
	if !slices.Contains(p.t1, frame) {
		p.b2 = append(p.b2, p.pages[frame])
	} else if len(p.t1) != p.c || known1 || known2 {
		p.b1 = append(p.b1, p.pages[frame])
	}
	for len(p.b1)+len(p.b2) > p.c {
		if len(p.b1) > len(p.b2) {
			p.b1 = p.b1[1:]
		} else {
			p.b2 = p.b2[1:]
		}
	}
	p.Remove(frame)
	return frame, true
}

func (p *plain) Remove(frame int) {
	p.t1, _ = without(p.t1, frame)
	p.t2, _ = without(p.t2, frame)
	delete(p.evictable, frame)
}

func (p *plain) Size() int {
	size := 0
	for _, evictable := range p.evictable {
		if evictable {
			size++
		}
	}
	return size
}

func (p *plain) Ghosts() []uint32 { return slices.Concat(p.b1, p.b2) }

// desk calls two Replacers alike, in such ways as the chapter of layer 4 says that they are called.
type desk struct {
	n     numbers
	most  int      // the greatest page
	held  int      // how many of 4 Sets say that a page may not go
	pages []uint32 // by frame; 0: it is empty
	both  [2]lru.Replacer
}

func (d *desk) tell(call func(r lru.Replacer)) {
	for _, r := range d.both {
		call(r)
	}
}

func (d *desk) step(t *testing.T) {
	t.Helper()
	frame := d.n.below(len(d.pages))
	switch kind := d.n.below(20); {
	case kind < 10:
		d.touch(t, uint32(d.n.below(d.most))+1)
	case kind < 12:
		d.touch(t, uint32(d.n.below((d.most+2)/3))+1) // some pages are touched oftener
	case d.pages[frame] == 0:
	case kind < 19:
		d.set(frame)
	case d.n.below(4) == 0:
		d.pages[frame] = 0
		d.tell(func(r lru.Replacer) { r.Remove(frame) })
	}
}

func (d *desk) set(frame int) {
	evictable := d.n.below(4) >= d.held
	d.tell(func(r lru.Replacer) { r.Set(frame, evictable) })
}

// touch brings a page into a frame, where it isn't in one, and tells that it is touched there.
func (d *desk) touch(t *testing.T, page uint32) {
	t.Helper()
	frame := slices.Index(d.pages, page)
	if frame < 0 {
		d.tell(func(r lru.Replacer) { r.Miss(page) })
		if frame = slices.Index(d.pages, 0); frame < 0 {
			if frame = d.victim(t, page); frame < 0 {
				return
			}
			if d.n.below(8) == 0 {
				page = d.pages[frame] // it didn't go, after all
			}
			d.pages[frame] = 0
		}
		if d.n.below(16) == 0 {
			return // nothing comes
		}
	}
	d.pages[frame] = page
	d.tell(func(r lru.Replacer) { r.Access(frame, page) })
	if d.n.below(2) == 0 {
		d.set(frame)
	}
}

// victim is the frame that both Replacers say, or -1.
func (d *desk) victim(t *testing.T, page uint32) int {
	t.Helper()
	f, ok := d.both[0].Victim(page)
	g, is := d.both[1].Victim(page)
	if f != g || ok != is {
		t.Fatalf("Victim: %d, %v; want %d, %v", f, ok, g, is)
	}
	if !ok {
		return -1
	}
	return f
}

// numbers are the same ones at each run.
type numbers uint64

func (n *numbers) below(m int) int {
	*n = *n*6364136223846793005 + 1442695040888963407
	return int(uint64(*n)>>33) % m
}
