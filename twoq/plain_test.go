package twoq_test

import (
	"slices"
	"testing"

	"hatcheck/api"
	"hatcheck/lru"
	"hatcheck/twoq"
)

// P6.1, P6.2 and P6.3: rows of calls as they may come, held against the chapter's words, told as plainly as can be.
func TestAgainstPlain(t *testing.T) {
	for frames := 1; frames <= 8; frames++ {
		for _, in := range []int{0, 1, 2, frames / 2, frames - 1, frames, 3 * frames} {
			for _, out := range []int{0, 1, 2, frames, 3 * frames} {
				q, e := twoq.New(frames, in, out)
				if e != api.OK {
					t.Fatal(e)
				}
				p := &plain{in: in, out: out, pages: map[int]uint32{}, evictable: map[int]bool{}}
				d := desk{n: numbers(frames*100 + in*10 + out), pages: make([]uint32, frames), both: [2]lru.Replacer{q, p}}
				for i := range 1000 {
					d.step(t)
					wantSize(t, q, p.Size())
					wantGhosts(t, q, p.Ghosts()...)
					if n := len(q.Ghosts()); n > out {
						t.Errorf("%d are remembered", n)
					}
					if t.Failed() {
						t.Fatalf("frames %d, in %d, out %d, step %d", frames, in, out, i)
					}
				}
			}
		}
	}
}

// plain has each of its lists with the eldest first.
type plain struct {
	in, out           int
	newOnes, mainOnes []int
	remembered        []uint32
	pages             map[int]uint32 // by frame
	evictable         map[int]bool
}

// without is a list without one of it, and whether it had that.
func without[T comparable](list []T, one T) ([]T, bool) {
	i := slices.Index(list, one)
	if i < 0 {
		return list, false
	}
	return slices.Delete(slices.Clone(list), i, i+1), true
}

func (p *plain) Miss(page uint32) {}

func (p *plain) Access(frame int, page uint32) {
	if slices.Contains(p.newOnes, frame) {
		return
	}
	rest, touched := without(p.mainOnes, frame)
	if touched {
		p.mainOnes = append(rest, frame)
		return
	}
	p.pages[frame] = page
	left, known := without(p.remembered, page)
	p.remembered = left
	if known {
		p.mainOnes = append(p.mainOnes, frame)
	} else {
		p.newOnes = append(p.newOnes, frame)
	}
}

func (p *plain) Set(frame int, evictable bool) { p.evictable[frame] = evictable }

func (p *plain) Victim(page uint32) (int, bool) {
	order := slices.Concat(p.mainOnes, p.newOnes)
	if len(p.newOnes) > p.in {
		order = slices.Concat(p.newOnes, p.mainOnes)
	}
	i := slices.IndexFunc(order, func(frame int) bool { return p.evictable[frame] })
	if i < 0 {
		return 0, false
	}
	frame := order[i]
	if slices.Contains(p.newOnes, frame) {
		p.remembered = append(p.remembered, p.pages[frame])
		if len(p.remembered) > p.out {
			p.remembered = p.remembered[1:]
		}
	}
	p.Remove(frame)
	return frame, true
}

func (p *plain) Remove(frame int) {
	p.newOnes, _ = without(p.newOnes, frame)
	p.mainOnes, _ = without(p.mainOnes, frame)
	delete(p.evictable, frame)
}

func (p *plain) Size() int {
	size := 0
	for _, evictable := range p.evictable {
		if evictable {
			size++
		}
	}
	return size
}

func (p *plain) Ghosts() []uint32 { return slices.Clone(p.remembered) }

// desk calls two Replacers alike, in such ways as the chapter of layer 4 says that they are called.
type desk struct {
	n     numbers
	pages []uint32 // by frame; 0: it is empty
	both  [2]lru.Replacer
}

func (d *desk) tell(call func(r lru.Replacer)) {
	for _, r := range d.both {
		call(r)
	}
}

func (d *desk) step(t *testing.T) {
	t.Helper()
	frame := d.n.below(len(d.pages))
	switch kind := d.n.below(10); {
	case kind < 5:
		d.touch(t, uint32(d.n.below(3*len(d.pages)))+1)
	case d.pages[frame] == 0:
	case kind < 9:
		evictable := d.n.below(3) > 0
		d.tell(func(r lru.Replacer) { r.Set(frame, evictable) })
	case d.n.below(3) == 0:
		d.pages[frame] = 0
		d.tell(func(r lru.Replacer) { r.Remove(frame) })
	}
}

// touch brings a page into a frame, where it isn't in one, and tells that it is touched there.
func (d *desk) touch(t *testing.T, page uint32) {
	t.Helper()
	frame := slices.Index(d.pages, page)
	if frame < 0 {
		d.tell(func(r lru.Replacer) { r.Miss(page) })
		if frame = slices.Index(d.pages, 0); frame < 0 {
			if frame = d.victim(t, page); frame < 0 {
				return
			}
			if d.n.below(8) == 0 {
				page = d.pages[frame] // it didn't go, after all
			}
			d.pages[frame] = 0
		}
		if d.n.below(8) == 0 {
			return // nothing comes
		}
	}
	d.pages[frame] = page
	d.tell(func(r lru.Replacer) { r.Access(frame, page) })
}

// victim is the frame that both Replacers say, or -1.
func (d *desk) victim(t *testing.T, page uint32) int {
	t.Helper()
	f, ok := d.both[0].Victim(page)
	g, is := d.both[1].Victim(page)
	if f != g || ok != is {
		t.Fatalf("Victim: %d, %v; want %d, %v", f, ok, g, is)
	}
	if !ok {
		return -1
	}
	return f
}

// numbers are the same ones at each run.
type numbers uint64

func (n *numbers) below(m int) int {
	*n = *n*6364136223846793005 + 1442695040888963407
	return int(uint64(*n)>>33) % m
}
