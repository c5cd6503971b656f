package crash_test

import (
	"cmp"
	"slices"
	"testing"

	"hatcheck/api"
	"hatcheck/crash"
	"hatcheck/disk"
	"hatcheck/model"
	"hatcheck/pool"
)

// plainPage is a page, as chapter 12 has it.
type plainPage struct {
	id    uint32
	may   []uint64
	frame uint64
}

// plain tells the Claims of chapter 12 word by word.
func plain(calls []done) []crash.Claim {
	var pages []plainPage
	for _, c := range calls {
		if c.a.Err != api.OK {
			continue
		}
		id := c.o.Id
		if c.o.Kind == model.New {
			id = c.a.Id
		}
		if c.o.Kind == model.New || c.o.Kind == model.Delete {
			pages = slices.DeleteFunc(pages, func(p plainPage) bool { return p.id == id })
		}
		if c.o.Kind == model.New {
			pages = append(pages, plainPage{id: id, may: []uint64{0}})
		}
		for i := range pages {
			p := &pages[i]
			switch {
			case c.o.Kind == model.Write && p.id == id:
				p.frame = c.o.V
				p.may = append(p.may, c.o.V)
			case c.o.Kind == model.Flush && p.id == id, c.o.Kind == model.FlushAll:
				p.may = []uint64{p.frame}
			}
		}
	}
	slices.SortFunc(pages, func(p, q plainPage) int { return cmp.Compare(p.id, q.id) })
	var l []crash.Claim
	for _, p := range pages {
		l = append(l, crash.Claim{Id: p.id, Values: p.may})
	}
	return l
}

// P12.1, Claims: of any calls, and any answers, also such as no pool gives.
func TestClaimsLikePlain(t *testing.T) {
	n := numbers(3)
	for range 2000 {
		var calls []done
		for range n.below(60) {
			c := done{n.op(4), model.Answer{Id: uint32(n.below(6)), V: uint64(n.below(9))}}
			if n.below(4) == 0 {
				c.a.Err = api.Errno(n.below(12) - 1)
			}
			calls = append(calls, c)
		}
		wantClaims(t, calls, plain(calls)...)
	}
}

// op is of as many kinds as there are, and of others; such as bring pages, and change them, and let them go, come more often.
func (n *numbers) op(room int) model.Op {
	often := [...]int{-1, model.New, model.New, model.New, model.Fetch, model.Fetch, model.Unpin, model.Unpin, model.Unpin, model.Unpin, model.Write, model.Write, model.Write}
	kind := n.below(9 + len(often))
	if kind >= 9 {
		kind = often[kind-9]
	}
	return model.Op{Kind: kind, Id: uint32(n.below(room + 2)), V: uint64(n.below(1000))}
}

// ops are calls at random, most of them of pages that there are, and that are let go again; no value is written twice.
func (n *numbers) ops(t *testing.T, frames, room int) []model.Op {
	t.Helper()
	m, e := model.Begin(frames, room)
	if e != api.OK {
		t.Fatal(e)
	}
	var l []model.Op
	do := func(o model.Op) model.Answer {
		o.V = uint64(len(l) + 1)
		l = append(l, o)
		return m.Do(o)
	}
	for range n.below(100) {
		id := uint32(1 + n.below(room))
		switch n.below(5) {
		case 0:
			if a := do(come()); a.Err == api.OK && n.below(5) > 0 {
				do(unpin(a.Id))
			}
		case 1, 2:
			do(fetch(id))
			do(write(id, 0))
			do(unpin(id))
		case 3:
			do(unpin(id))
		default:
			do(n.op(room))
		}
	}
	return l
}

// trials are of few frames, little room, and each policy.
func trials(t *testing.T, n *numbers, trial func(name string, frames, room int, ops []model.Op)) {
	t.Helper()
	for _, name := range crash.Policies() {
		for frames := 1; frames <= 5; frames++ {
			for range 40 {
				room := 1 + n.below(9)
				trial(name, frames, room, n.ops(t, frames, room))
			}
		}
	}
}

func emptyDisk(t *testing.T, room int) *disk.Disk {
	t.Helper()
	d, e := disk.New(room)
	if e != api.OK {
		t.Fatal(e)
	}
	return d
}

// byHand does what Replay does, on the disk itself: the answers, and how many accesses there were.
func byHand(t *testing.T, d *disk.Disk, frames int, name string, ops []model.Op, after int) ([]model.Answer, int) {
	t.Helper()
	p, e := pool.New(d, frames, ours(t, name, frames))
	if e != api.OK {
		t.Fatal(e)
	}
	d.Stop(after)
	var answers []model.Answer
	for _, o := range ops {
		answers = append(answers, model.Call(p, o))
	}
	return answers, d.Reads() + d.Writes()
}

// sameDisks says whether two disks have the same pages, which hold the same.
func sameDisks(d, c *disk.Disk) bool {
	d, c = d.Copy(), c.Copy()
	return slices.EqualFunc(d.Pages(), c.Pages(), func(id, other uint32) bool {
		v, e := d.Read(id)
		w, f := c.Read(other)
		return id == other && v == w && e == api.OK && f == api.OK
	})
}

// P12.1, Replay: all is as a pool of such a disk has it, wherever that stops. P12.2: what is left is what the Claims say.
func TestWhereverItStops(t *testing.T) {
	n := numbers(4)
	stopped := 0
	trials(t, &n, func(name string, frames, room int, ops []model.Op) {
		d := emptyDisk(t, room)
		_, accesses := byHand(t, emptyDisk(t, room), frames, name, ops, 1000000)
		for after := range accesses + 2 {
			a, left := crash.Replay(d, frames, name, ops, after)
			c := emptyDisk(t, room)
			want, made := byHand(t, c, frames, name, ops, after)
			if !slices.Equal(a, want) || left == nil || !sameDisks(left, c) {
				t.Fatalf("%s, %d frames, room %d, behind %d: %v; want %v", name, frames, room, after, a, want)
			}
			if l := crash.Claims(ops, a); !crash.Left(left, l) {
				t.Fatalf("%s, %d frames, room %d, %v, behind %d: the disk doesn't hold what it may: %v", name, frames, room, ops, after, l)
			}
			if made < accesses {
				stopped++
			}
		}
	})
	if stopped < 1000 {
		t.Errorf("the disk stopped but %d times", stopped)
	}
}

// P12.2: with a FlushAll at the end, and no stop ahead of that, each page holds what it held last.
func TestAllIsSafe(t *testing.T) {
	n := numbers(5)
	trials(t, &n, func(name string, frames, room int, ops []model.Op) {
		ops = append(ops, flushAll())
		m, e := model.Begin(frames, room)
		if e != api.OK {
			t.Fatal(e)
		}
		var want []model.Answer
		for _, o := range ops {
			want = append(want, m.Do(o))
		}
		a, left := crash.Replay(emptyDisk(t, room), frames, name, ops, 1000000)
		if !slices.Equal(a, want) {
			t.Fatalf("%s, %d frames, room %d: %v; want %v", name, frames, room, a, want)
		}
		var l []crash.Claim
		for id := range uint32(room + 2) {
			if v, there := m.Value(id); there {
				l = append(l, may(id, v))
			}
		}
		if c := crash.Claims(ops, a); !sameClaims(c, l) || !crash.Left(left, l) {
			t.Fatalf("%s, %d frames, room %d: Claims %v; want %v", name, frames, room, c, l)
		}
	})
}

// P12.3: a pool of what is left has no pins, and reads just what is left.
func TestPoolOfWhatIsLeft(t *testing.T) {
	n := numbers(6)
	trials(t, &n, func(name string, frames, room int, ops []model.Op) {
		_, left := crash.Replay(emptyDisk(t, room), frames, name, ops, n.below(20))
		kept := left.Copy()
		p, e := pool.New(left, frames, crash.Policy(name, frames))
		if e != api.OK {
			t.Fatal(e)
		}
		for id := range uint32(room + 2) {
			v, e := kept.Read(id)
			if p.Has(id) != (e == api.OK) || p.Pins(id) != 0 || p.Frame(id) != -1 {
				t.Fatalf("page %d: Has %v, Pins %d, Frame %d", id, p.Has(id), p.Pins(id), p.Frame(id))
			}
			if f := p.Unpin(id); f == api.OK {
				t.Fatalf("page %d could be unpinned", id)
			}
			if f := p.Fetch(id); f != e {
				t.Fatalf("Fetch(%d): %v; want %v", id, f, e)
			}
			w, f := p.Read(id)
			if w != v || f != e {
				t.Fatalf("Read(%d): %d, %v; want %d, %v", id, w, f, v, e)
			}
			p.Unpin(id)
		}
		if p.FlushAll() != api.OK || left.Writes() != 0 || !sameDisks(left, kept) {
			t.Fatalf("%s, %d frames, room %d: what is left was changed", name, frames, room)
		}
	})
}
