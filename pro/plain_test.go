package pro_test

import (
	"slices"
	"testing"

	"hatcheck/api"
	"hatcheck/lru"
	"hatcheck/pro"
)

// P8.1, P8.2 and P8.3: rows of calls as they may come, held against the chapter's words, told as plainly as can be.
func TestAgainstPlain(t *testing.T) {
	for frames := 1; frames <= 9; frames++ {
		for pages := 1; pages <= 4; pages++ { // for each frame
			for held := range 4 {
				againstPlain(t, frames, pages*frames+1, held)
			}
		}
	}
}

func againstPlain(t *testing.T, frames, pages, held int) {
	t.Helper()
	r, e := pro.New(frames)
	if e != api.OK {
		t.Fatal(e)
	}
	p := newPlain(frames)
	d := desk{n: numbers(frames*1000 + pages*10 + held), most: pages, held: held, pages: make([]uint32, frames), both: [2]lru.Replacer{r, p}}
	for i := range 4000 {
		d.step(t)
		wantSize(t, r, p.Size())
		wantGhosts(t, r, p.Ghosts()...)
		wantHot(t, r, p.count(func(o *one) bool { return o.hot }))
		wantTarget(t, r, p.m)
		if n := len(r.Ghosts()); n > frames {
			t.Errorf("%d are remembered", n)
		}
		if n := r.Target(); n < 1 || n > max(frames-1, 1) {
			t.Errorf("the target is %d", n)
		}
		if t.Failed() {
			t.Fatalf("frames %d, pages %d, held %d, step %d", frames, pages, held, i)
		}
	}
}

// one is an entry.
type one struct {
	page                             uint32
	frame                            int // -1: a ghost
	hot, touched, inTest, mayBeTaken bool
}

// plain has its entries in a list, behind whose end its beginning comes.
type plain struct {
	c, m              int
	ring              []*one
	byHot, cold, test *one // the hands
}

func newPlain(frames int) *plain {
	return &plain{c: frames, m: max(frames-1, 1)}
}

func (p *plain) count(is func(o *one) bool) int {
	n := 0
	for _, o := range p.ring {
		if is(o) {
			n++
		}
	}
	return n
}

func (p *plain) tooMany() bool { return p.count(func(o *one) bool { return o.hot }) > p.c-p.m }

func (p *plain) ghosts() int { return p.count(func(o *one) bool { return o.frame < 0 }) }

// find is the entry of a frame, or nil.
func (p *plain) find(frame int) *one {
	for _, o := range p.ring {
		if o.frame == frame {
			return o
		}
	}
	return nil
}

func (p *plain) behind(o *one) *one {
	return p.ring[(slices.Index(p.ring, o)+1)%len(p.ring)]
}

func (p *plain) goes(o *one) {
	next := p.behind(o)
	if next == o {
		next = nil
	}
	for _, hand := range []**one{&p.byHot, &p.cold, &p.test} {
		if *hand == o {
			*hand = next
		}
	}
	p.ring = slices.DeleteFunc(p.ring, func(other *one) bool { return other == o })
}

func (p *plain) comes(o *one) {
	if len(p.ring) == 0 {
		p.ring = []*one{o}
		p.byHot, p.cold, p.test = o, o, o
		return
	}
	p.ring = slices.Insert(p.ring, slices.Index(p.ring, p.byHot), o)
}

func (p *plain) less() { p.m = max(1, p.m-1) }

func (p *plain) hotWorks() {
	if p.count(func(o *one) bool { return o.hot }) == 0 {
		return
	}
	for {
		o := p.byHot
		if o.hot && !o.touched {
			o.hot = false
			p.byHot = p.behind(o)
			return
		}
		if o.hot {
			o.touched = false
		} else if o.inTest {
			p.less()
			if o.frame < 0 {
				p.goes(o)
				continue
			}
			o.inTest = false
		}
		p.byHot = p.behind(o)
	}
}

func (p *plain) testWorks() {
	for p.ghosts() > 0 {
		o := p.test
		if o.inTest {
			p.less()
			if o.frame < 0 {
				p.goes(o)
				return
			}
			o.inTest = false
		}
		p.test = p.behind(o)
	}
}

func (p *plain) Miss(page uint32) {}

func (p *plain) Access(frame int, page uint32) {
	if o := p.find(frame); o != nil {
		o.touched = true
		return
	}
	i := slices.IndexFunc(p.ring, func(o *one) bool { return o.frame < 0 && o.page == page })
	if i < 0 {
		p.comes(&one{page: page, frame: frame, inTest: true})
		return
	}
	p.m = min(p.m+1, max(p.c-1, 1))
	p.goes(p.ring[i])
	p.comes(&one{page: page, frame: frame, hot: true})
	for p.tooMany() {
		p.hotWorks()
	}
}

func (p *plain) Set(frame int, evictable bool) {
	p.find(frame).mayBeTaken = evictable
}

func (p *plain) Victim(page uint32) (int, bool) {
	if p.Size() == 0 {
		return 0, false
	}
	steps := 4*len(p.ring) + 4
	for range steps {
		o := p.cold
		if !o.hot && o.frame >= 0 && o.touched {
			o.touched = false
			if o.inTest {
				o.hot, o.inTest = true, false
			} else {
				o.inTest = true
			}
			p.goes(o)
			p.comes(o)
			for p.tooMany() {
				p.hotWorks()
			}
			continue
		}
		if !o.hot && o.frame >= 0 && o.mayBeTaken {
			return p.taken(o), true
		}
		p.cold = p.behind(o)
	}
	for o := p.cold; ; o = p.behind(o) {
		if o.mayBeTaken {
			p.goes(o)
			return o.frame, true
		}
	}
}

// taken takes the victim, at which the cold hand is, out of its frame.
func (p *plain) taken(o *one) int {
	frame := o.frame
	if !o.inTest {
		p.goes(o)
		return frame
	}
	p.cold = p.behind(o)
	o.frame, o.mayBeTaken = -1, false
	for p.ghosts() > p.c {
		p.testWorks()
	}
	return frame
}

func (p *plain) Remove(frame int) { p.goes(p.find(frame)) }

func (p *plain) Size() int { return p.count(func(o *one) bool { return o.mayBeTaken }) }

func (p *plain) Ghosts() []uint32 {
	ghosts := []uint32{}
	o := p.byHot
	for range p.ring {
		if o.frame < 0 {
			ghosts = append(ghosts, o.page)
		}
		o = p.behind(o)
	}
	return ghosts
}

// desk calls two Replacers alike, in such ways as the chapter of layer 4 says that they are called.
type desk struct {
	n     numbers
	most  int      // the greatest page
	held  int      // how many of 4 Sets say that a page may not go
	pages []uint32 // by frame; 0: it is empty
	both  [2]lru.Replacer
}

func (d *desk) tell(call func(r lru.Replacer)) {
	for _, r := range d.both {
		call(r)
	}
}

func (d *desk) step(t *testing.T) {
	t.Helper()
	frame := d.n.below(len(d.pages))
	switch kind := d.n.below(20); {
	case kind < 10:
		d.touch(t, uint32(d.n.below(d.most))+1)
	case kind < 12:
		d.touch(t, uint32(d.n.below((d.most+2)/3))+1) // some pages are touched oftener
	case d.pages[frame] == 0:
	case kind < 19:
		d.set(frame)
	case d.n.below(4) == 0:
		d.pages[frame] = 0
		d.tell(func(r lru.Replacer) { r.Remove(frame) })
	}
}

func (d *desk) set(frame int) {
	evictable := d.n.below(4) >= d.held
	d.tell(func(r lru.Replacer) { r.Set(frame, evictable) })
}

// touch brings a page into a frame, where it isn't in one, and tells that it is touched there.
func (d *desk) touch(t *testing.T, page uint32) {
	t.Helper()
	frame := slices.Index(d.pages, page)
	if frame < 0 {
		d.tell(func(r lru.Replacer) { r.Miss(page) })
		if frame = slices.Index(d.pages, 0); frame < 0 {
			if frame = d.victim(t, page); frame < 0 {
				return
			}
			if d.n.below(8) == 0 {
				page = d.pages[frame] // it didn't go, after all
			}
			d.pages[frame] = 0
		}
		if d.n.below(16) == 0 {
			return // nothing comes
		}
	}
	d.pages[frame] = page
	d.tell(func(r lru.Replacer) { r.Access(frame, page) })
	if d.n.below(2) == 0 {
		d.set(frame)
	}
}

// victim is the frame that both Replacers say, or -1.
func (d *desk) victim(t *testing.T, page uint32) int {
	t.Helper()
	f, ok := d.both[0].Victim(page)
	g, is := d.both[1].Victim(page)
	if f != g || ok != is {
		t.Fatalf("Victim: %d, %v; want %d, %v", f, ok, g, is)
	}
	if !ok {
		return -1
	}
	return f
}

// numbers are the same ones at each run.
type numbers uint64

func (n *numbers) below(m int) int {
	*n = *n*6364136223846793005 + 1442695040888963407
	return int(uint64(*n)>>33) % m
}
