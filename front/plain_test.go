package front_test

import (
	"slices"
	"testing"

	"hatcheck/api"
	"hatcheck/arc"
	"hatcheck/disk"
	"hatcheck/front"
	"hatcheck/lru"
	"hatcheck/lruk"
	"hatcheck/model"
	"hatcheck/pool"
	"hatcheck/pro"
	"hatcheck/twoq"
)

// pages are what clients call: a Model, or a pool like the Front's.
type pages struct {
	do  func(o model.Op) model.Answer
	has func(id uint32) bool
}

func ofModel(t *testing.T, frames, room int) pages {
	t.Helper()
	m, e := model.Begin(frames, room)
	if e != api.OK {
		t.Fatal(e)
	}
	return pages{m.Do, func(id uint32) bool {
		_, there := m.Value(id)
		return there
	}}
}

func ofPool(p *pool.Pool) pages {
	return pages{func(o model.Op) model.Answer { return model.Call(p, o) }, p.Has}
}

// holding is a client, and a page of which it has pins.
type holding struct {
	client int
	id     uint32
}

// plain tells chapter 11 by what each client did alone.
type plain struct {
	pages pages
	calls [][]model.Op
	steps []int // how many each client made
	latch int
	pins  map[holding]int
	log   []front.Entry
}

func newPlain(g pages, calls [][]model.Op) *plain {
	return &plain{pages: g, calls: calls, steps: make([]int, len(calls)), latch: -1, pins: map[holding]int{}}
}

func (p *plain) pick(k int) bool {
	i := int(uint64(k) % uint64(len(p.calls)))
	call, step := p.steps[i]/3, p.steps[i]%3
	switch {
	case call == len(p.calls[i]), step == 0 && p.latch >= 0:
		return false
	case step == 0:
		p.latch = i
	case step == 1:
		o := p.calls[i][call]
		p.log = append(p.log, front.Entry{Client: i, Index: call, Op: o, Answer: p.do(i, o)})
	default:
		p.latch = -1
	}
	p.steps[i]++
	return true
}

func (p *plain) do(client int, o model.Op) model.Answer {
	own := holding{client, o.Id}
	if p.pins[own] == 0 && (o.Kind == model.Unpin || o.Kind == model.Read || o.Kind == model.Write) {
		if p.pages.has(o.Id) {
			return model.Answer{Err: api.ErrNotPinned}
		}
		return model.Answer{Err: api.ErrUnknown}
	}
	a := p.pages.do(o)
	switch {
	case a.Err != api.OK:
	case o.Kind == model.New:
		p.pins[holding{client, a.Id}]++
	case o.Kind == model.Fetch:
		p.pins[own]++
	case o.Kind == model.Unpin:
		p.pins[own]--
	}
	return a
}

// rest is Rest.
func (p *plain) rest() {
	for {
		before := slices.Clone(p.steps)
		for i := range p.calls {
			p.pick(i)
		}
		if slices.Equal(p.steps, before) {
			return
		}
	}
}

// pair is a Front, its pool, and a plain telling of it.
type pair struct {
	t     *testing.T
	f     *front.Front
	p     *pool.Pool
	plain *plain
	room  int
}

// alike says what isn't: of each client's pins, of the pool's (P11.3), and of the Log.
func (b pair) alike() {
	b.t.Helper()
	if b.f.Latch() != b.plain.latch {
		b.t.Fatalf("Latch: %d; want %d", b.f.Latch(), b.plain.latch)
	}
	for id := range uint32(b.room + 2) {
		sum := 0
		for k := range b.plain.calls {
			n := b.f.Holds(k, id)
			if want := b.plain.pins[holding{k, id}]; n != want {
				b.t.Fatalf("Holds(%d, %d): %d; want %d", k, id, n, want)
			}
			sum += n
		}
		if n := b.p.Pins(id); n != sum {
			b.t.Fatalf("the pool's Pins(%d): %d; the clients' own: %d", id, n, sum)
		}
	}
	l := b.f.Log()
	for i := range min(len(l), len(b.plain.log)) {
		if l[i] != b.plain.log[i] {
			b.t.Fatalf("the Log's entry %d: %v; want %v", i, l[i], b.plain.log[i])
		}
	}
	if len(l) != len(b.plain.log) {
		b.t.Fatalf("the Log has %d entries; want %d", len(l), len(b.plain.log))
	}
}

// picks makes so many at random, some of them of numbers below 0, or far above the clients'.
func (b pair) picks(n *numbers, many int, meanwhile func()) {
	b.t.Helper()
	for range many {
		k := n.below(len(b.plain.calls))
		if n.below(9) == 0 {
			k = n.below(1<<30) * (n.below(1<<30) - 1<<29) * 8
		}
		if got, want := b.f.Pick(k), b.plain.pick(k); got != want {
			b.t.Fatalf("Pick(%d): %v; want %v", k, got, want)
		}
		b.alike()
		meanwhile()
	}
}

func (b pair) rest() {
	b.t.Helper()
	b.f.Rest()
	b.plain.rest()
	b.alike()
}

// P11.2, P11.3: whatever the Replacer, and whatever is picked, all is as one Model has it.
func TestLikeModel(t *testing.T) {
	n := numbers(1)
	trials(&n, func(clients, frames, room, which int) {
		p, _ := poolOf(t, frames, room, which)
		calls := n.calls(clients, room)
		b := pair{t, makeFront(t, p, calls...), p, newPlain(ofModel(t, frames, room), calls), room}
		b.picks(&n, n.below(400), func() {})
		b.rest()
	})
}

// P11.1, P11.3: where the disk fails, or stops, all is as a pool like that one has it.
func TestLikePool(t *testing.T) {
	n := numbers(2)
	trials(&n, func(clients, frames, room, which int) {
		p, d := poolOf(t, frames, room, which)
		q, e := poolOf(t, frames, room, which)
		calls := n.calls(clients, room)
		b := pair{t, makeFront(t, p, calls...), p, newPlain(ofPool(q), calls), room}
		b.picks(&n, n.below(400), func() { fault(&n, [2]*disk.Disk{d, e}, room) })
		b.rest()
	})
}

// trials are of all numbers of clients, of few frames, and of each replacer.
func trials(n *numbers, trial func(clients, frames, room, which int)) {
	for clients := 1; clients <= api.MaxClients; clients++ {
		for frames := 1; frames <= 5; frames += 2 {
			for which := range 7 {
				trial(clients, frames, 1+n.below(9), which)
			}
		}
	}
}

// fault makes two disks fail, or stop, alike, now and then.
func fault(n *numbers, disks [2]*disk.Disk, room int) {
	switch n.below(20) {
	case 0:
		id, write, times := uint32(1+n.below(room)), n.below(2) == 0, n.below(4)
		for _, d := range disks {
			d.Fail(id, write, times)
		}
	case 1:
		after := n.below(30)
		for _, d := range disks {
			d.Stop(after)
		}
	}
}

// poolOf is a pool of an empty disk, with one of seven replacers: the policies, advice of some worth, and none.
func poolOf(t *testing.T, frames, room, which int) (*pool.Pool, *disk.Disk) {
	t.Helper()
	l, e1 := lru.New(frames)
	k, e2 := lruk.New(frames, 2, 1, frames)
	q, e3 := twoq.New(frames, frames/4, frames/2)
	a, e4 := arc.New(frames)
	c, e5 := pro.New(frames)
	list := make([]int, 100)
	for i := range list {
		list[i] = i*i%(frames+3) - 1
	}
	d, e6 := disk.New(room)
	p, e7 := pool.New(d, frames, []lru.Replacer{l, k, q, a, c, pool.Advise(list), pool.Advise(nil)}[which])
	for _, e := range []api.Errno{e1, e2, e3, e4, e5, e6, e7} {
		if e != api.OK {
			t.Fatal(e)
		}
	}
	return p, d
}

// numbers are the same ones at each run.
type numbers uint64

func (n *numbers) below(m int) int {
	*n = *n*6364136223846793005 + 1442695040888963407
	return int(uint64(*n)>>33) % m
}

// calls are lists at random, some of them empty.
func (n *numbers) calls(clients, room int) [][]model.Op {
	calls := make([][]model.Op, clients)
	for i := range calls {
		for range n.below(3) * n.below(25) {
			calls[i] = append(calls[i], n.op(room))
		}
	}
	return calls
}

// op is of as many kinds as there are, and of others; such as pin, and let go, and read, come more often.
func (n *numbers) op(room int) model.Op {
	often := [...]int{-1, model.New, model.New, model.Fetch, model.Fetch, model.Fetch, model.Unpin, model.Unpin, model.Unpin, model.Read, model.Write, model.Write}
	kind := n.below(9 + len(often))
	if kind >= 9 {
		kind = often[kind-9]
	}
	return model.Op{Kind: kind, Id: uint32(n.below(min(room+2, 5))), V: uint64(n.below(1000))}
}
