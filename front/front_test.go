package front_test

import (
	"math"
	"slices"
	"testing"

	"hatcheck/api"
	"hatcheck/disk"
	"hatcheck/front"
	"hatcheck/lru"
	"hatcheck/model"
	"hatcheck/pool"
)

// The calls.
func come() model.Op                     { return model.Op{Kind: model.New} }
func fetch(id uint32) model.Op           { return model.Op{Kind: model.Fetch, Id: id} }
func unpin(id uint32) model.Op           { return model.Op{Kind: model.Unpin, Id: id} }
func read(id uint32) model.Op            { return model.Op{Kind: model.Read, Id: id} }
func write(id uint32, v uint64) model.Op { return model.Op{Kind: model.Write, Id: id, V: v} }
func flush(id uint32) model.Op           { return model.Op{Kind: model.Flush, Id: id} }
func flushAll() model.Op                 { return model.Op{Kind: model.FlushAll} }
func remove(id uint32) model.Op          { return model.Op{Kind: model.Delete, Id: id} }

func makePool(t *testing.T, frames, room int) (*pool.Pool, *disk.Disk) {
	t.Helper()
	return poolOf(t, frames, room, 0)
}

func makeFront(t *testing.T, p *pool.Pool, calls ...[]model.Op) *front.Front {
	t.Helper()
	f, e := front.New(p, calls)
	if f == nil || e != api.OK {
		t.Fatalf("New: %v, %v", f, e)
	}
	return f
}

func wantLatch(t *testing.T, f *front.Front, want int) {
	t.Helper()
	if k := f.Latch(); k != want {
		t.Errorf("Latch: %d; want %d", k, want)
	}
}

func wantPick(t *testing.T, f *front.Front, k int, want bool, latch int) {
	t.Helper()
	if ok := f.Pick(k); ok != want {
		t.Errorf("Pick(%d): %v; want %v", k, ok, want)
	}
	wantLatch(t, f, latch)
}

// wantPins is what each client has of a page, and that the pool's pins are the sum.
func wantPins(t *testing.T, f *front.Front, p *pool.Pool, id uint32, want ...int) {
	t.Helper()
	sum := 0
	for k, n := range want {
		if got := f.Holds(k, id); got != n {
			t.Errorf("Holds(%d, %d): %d; want %d", k, id, got, n)
		}
		sum += n
	}
	if got := p.Pins(id); got != sum {
		t.Errorf("the pool's Pins(%d): %d; want %d", id, got, sum)
	}
}

// whose are the clients of the Log's calls, and which of theirs each is.
func whose(f *front.Front) [][2]int {
	var w [][2]int
	for _, e := range f.Log() {
		w = append(w, [2]int{e.Client, e.Index})
	}
	return w
}

func wantWhose(t *testing.T, f *front.Front, want ...[2]int) {
	t.Helper()
	if w := whose(f); !slices.Equal(w, want) {
		t.Errorf("whose calls: %v; want %v", w, want)
	}
}

// turn is a call of a client, and what it is to answer.
type turn struct {
	client int
	o      model.Op
	want   model.Answer
}

func ok(client int, o model.Op) turn { return turn{client, o, model.Answer{}} }

func bad(client int, o model.Op, e api.Errno) turn { return turn{client, o, model.Answer{Err: e}} }

func came(client int, id uint32) turn { return turn{client, come(), model.Answer{Id: id}} }

func seen(client int, id uint32, v uint64) turn { return turn{client, read(id), model.Answer{V: v}} }

// play does turns, each of which takes its three steps with nothing between.
func play(t *testing.T, p *pool.Pool, clients int, turns ...turn) *front.Front {
	t.Helper()
	calls := make([][]model.Op, clients)
	for _, u := range turns {
		calls[u.client] = append(calls[u.client], u.o)
	}
	f := makeFront(t, p, calls...)
	for i, u := range turns {
		if !f.Pick(u.client) || !f.Pick(u.client) || !f.Pick(u.client) {
			t.Fatalf("turn %d: a step wasn't made", i)
		}
		l := f.Log()
		if len(l) != i+1 || l[i].Client != u.client || l[i].Op != u.o || l[i].Answer != u.want {
			t.Fatalf("turn %d, %v: %v", i, u, l[i:])
		}
	}
	return f
}

// P11.1, New: a pool, and 1 to 8 clients.
func TestNew(t *testing.T) {
	p, _ := makePool(t, 2, 9)
	for _, n := range []int{0, 9, 10, 1000} {
		if f, e := front.New(p, make([][]model.Op, n)); f != nil || e != api.ErrArg {
			t.Errorf("New of %d clients: %v, %v; want nil, ErrArg", n, f, e)
		}
	}
	if f, e := front.New(p, nil); f != nil || e != api.ErrArg {
		t.Errorf("New of nil: %v, %v; want nil, ErrArg", f, e)
	}
	for _, n := range []int{0, 1, 8, 9} {
		if f, e := front.New(nil, make([][]model.Op, n)); f != nil || e != api.ErrArg {
			t.Errorf("New without a pool, of %d clients: %v, %v; want nil, ErrArg", n, f, e)
		}
	}
	for n := 1; n <= api.MaxClients; n++ {
		f := makeFront(t, p, make([][]model.Op, n)...)
		wantLatch(t, f, -1)
		if len(f.Log()) != 0 {
			t.Errorf("New of %d clients: %v", n, f.Log())
		}
	}
	makeFront(t, p, []model.Op{come()})
	if p.Has(1) {
		t.Error("New did a call")
	}
}

// P11.1: the chapter's example.
func TestExample(t *testing.T) {
	p, _ := makePool(t, 2, 9)
	f := play(t, p, 2, came(0, 1), bad(1, read(1), api.ErrNotPinned))
	wantPins(t, f, p, 1, 1, 0)
}

// P11.1, Pick: a call takes three steps; who has no latch waits for it, and then nothing is done.
func TestSteps(t *testing.T) {
	p, _ := makePool(t, 2, 9)
	f := makeFront(t, p, []model.Op{come(), unpin(1)}, []model.Op{come()})
	wantLatch(t, f, -1)
	wantPick(t, f, 0, true, 0)
	if len(f.Log()) != 0 || p.Has(1) {
		t.Error("a call was done with its first step")
	}
	wantPick(t, f, 1, false, 0)
	wantPick(t, f, 0, true, 0)
	wantWhose(t, f, [2]int{0, 0})
	wantPins(t, f, p, 1, 1, 0)
	wantPick(t, f, 1, false, 0)
	wantPick(t, f, 0, true, -1)
	wantWhose(t, f, [2]int{0, 0})
	wantPick(t, f, 1, true, 1)
	wantPick(t, f, 0, false, 1)
	wantPick(t, f, 1, true, 1)
	wantWhose(t, f, [2]int{0, 0}, [2]int{1, 0})
	wantPick(t, f, 0, false, 1)
	wantPick(t, f, 1, true, -1)
	wantPick(t, f, 1, false, -1)
	for _, latch := range []int{0, 0, -1} {
		wantPick(t, f, 0, true, latch)
	}
	wantWhose(t, f, [2]int{0, 0}, [2]int{1, 0}, [2]int{0, 1})
	wantPick(t, f, 0, false, -1)
	wantPick(t, f, 1, false, -1)
	wantPins(t, f, p, 1, 0, 0)
	wantPins(t, f, p, 2, 0, 1)
}

// P11.1, Pick: the client is k mod how many there are, k's 64 bits as a number from 0 on.
func TestPickOfAnyNumber(t *testing.T) {
	for _, c := range []struct{ clients, k, want int }{
		{1, 0, 0}, {1, -1, 0}, {1, math.MinInt, 0}, {1, math.MaxInt, 0},
		{2, 2, 0}, {2, 3, 1}, {2, -1, 1}, {2, -2, 0}, {2, math.MinInt, 0}, {2, math.MaxInt, 1},
		{3, 2, 2}, {3, 3, 0}, {3, -1, 0}, {3, -2, 2}, {3, -3, 1}, {3, math.MinInt, 2}, {3, math.MaxInt, 1},
		{4, -1, 3}, {5, -1, 0}, {5, math.MinInt, 3}, {5, math.MaxInt, 2},
		{6, -1, 3}, {6, math.MinInt, 2}, {6, math.MaxInt, 1},
		{7, 7, 0}, {7, 13, 6}, {7, -1, 1}, {7, -2, 0}, {7, -3, 6}, {7, math.MinInt, 1}, {7, math.MaxInt, 0},
		{8, 8, 0}, {8, -1, 7}, {8, -8, 0}, {8, math.MinInt, 0}, {8, math.MaxInt, 7},
	} {
		p, _ := makePool(t, 8, 9)
		calls := make([][]model.Op, c.clients)
		for i := range calls {
			calls[i] = []model.Op{come()}
		}
		f := makeFront(t, p, calls...)
		if !f.Pick(c.k) || f.Latch() != c.want {
			t.Errorf("%d clients, Pick(%d): the latch is %d's; want %d's", c.clients, c.k, f.Latch(), c.want)
		}
		f.Run([]int{c.k, c.k})
		wantLatch(t, f, -1)
		wantWhose(t, f, [2]int{c.want, 0})
	}
}

// P11.1, Pick: a client without a call has no step, whoever has the latch.
func TestNoStep(t *testing.T) {
	p, _ := makePool(t, 2, 9)
	f := makeFront(t, p, nil, []model.Op{come()}, []model.Op{})
	wantPick(t, f, 0, false, -1)
	wantPick(t, f, 2, false, -1)
	wantPick(t, f, 1, true, 1)
	wantPick(t, f, 0, false, 1)
	f.Rest()
	wantPick(t, f, 1, false, -1)
	wantWhose(t, f, [2]int{1, 0})

	f = makeFront(t, p, nil)
	f.Run([]int{0, 0, 0})
	f.Rest()
	wantPick(t, f, 0, false, -1)
	wantWhose(t, f)
}

// P11.1, Run: of each one a Pick, whether it goes on or not.
func TestRun(t *testing.T) {
	p, _ := makePool(t, 9, 9)
	f := makeFront(t, p, []model.Op{come(), come()}, []model.Op{come()})
	f.Run(nil)
	f.Run([]int{})
	wantLatch(t, f, -1)
	f.Run([]int{1, 0, 0, 0, 1})
	wantLatch(t, f, 1)
	wantWhose(t, f, [2]int{1, 0})
	f.Run([]int{1})
	wantLatch(t, f, -1)
	f.Run([]int{0, 1, 2, 1, 4, 1, 0, 0})
	wantLatch(t, f, 0)
	wantWhose(t, f, [2]int{1, 0}, [2]int{0, 0}, [2]int{0, 1})
	f.Run([]int{0, 1, 0, 1, 0, 1})
	wantLatch(t, f, -1)
	if len(f.Log()) != 3 {
		t.Error(f.Log())
	}
}

// P11.1, Rest: in turn, client 0 first, till none has a step any more.
func TestRest(t *testing.T) {
	p, _ := makePool(t, 50, 50)
	two, three := []model.Op{come(), come()}, []model.Op{come(), come(), come()}
	f := makeFront(t, p, two, nil, three, two)
	f.Rest()
	all := [][2]int{{0, 0}, {2, 0}, {3, 0}, {0, 1}, {2, 1}, {3, 1}, {2, 2}}
	wantWhose(t, f, all...)
	wantLatch(t, f, -1)
	f.Rest()
	wantWhose(t, f, all...)
	for k := range 4 {
		wantPick(t, f, k, false, -1)
	}

	// Client 1 has the latch, and gives it back in its turn, behind which it is client 2's.
	f = makeFront(t, p, two, two, two)
	f.Run([]int{1, 1})
	f.Rest()
	wantWhose(t, f, [2]int{1, 0}, [2]int{2, 0}, [2]int{0, 0}, [2]int{1, 1}, [2]int{2, 1}, [2]int{0, 1})

	// Client 2 was last to give it back: client 0 is first all the same.
	f = makeFront(t, p, two, two, two)
	f.Run([]int{0, 0, 0})
	f.Rest()
	wantWhose(t, f, [2]int{0, 0}, [2]int{0, 1}, [2]int{1, 0}, [2]int{2, 0}, [2]int{1, 1}, [2]int{2, 1})
}

// P11.1: an Unpin, Read or Write needs a pin of the client's own.
func TestOwnPins(t *testing.T) {
	p, _ := makePool(t, 3, 9)
	f := play(t, p, 2,
		came(0, 1), ok(0, write(1, 7)), seen(0, 1, 7),
		bad(1, read(1), api.ErrNotPinned), bad(1, write(1, 8), api.ErrNotPinned), bad(1, unpin(1), api.ErrNotPinned),
		seen(0, 1, 7),
		ok(1, fetch(1)), seen(1, 1, 7), ok(1, write(1, 8)), seen(0, 1, 8),
		ok(0, unpin(1)),
		bad(0, read(1), api.ErrNotPinned), bad(0, write(1, 9), api.ErrNotPinned), bad(0, unpin(1), api.ErrNotPinned),
		seen(1, 1, 8),
	)
	wantPins(t, f, p, 1, 0, 1)
}

// P11.1: of a page that there isn't, that is what is said; of one that nobody pins, that nobody does.
func TestUnknown(t *testing.T) {
	p, d := makePool(t, 3, 9)
	f := play(t, p, 2,
		bad(0, read(1), api.ErrUnknown), bad(0, write(1, 7), api.ErrUnknown), bad(0, unpin(1), api.ErrUnknown),
		bad(0, read(0), api.ErrUnknown), bad(0, write(0, 7), api.ErrUnknown), bad(0, unpin(0), api.ErrUnknown),
		bad(0, read(math.MaxUint32), api.ErrUnknown), bad(0, fetch(1), api.ErrUnknown), bad(0, flush(1), api.ErrUnknown), bad(0, remove(1), api.ErrUnknown),
		came(1, 1), ok(1, unpin(1)),
		bad(0, read(1), api.ErrNotPinned), bad(1, read(1), api.ErrNotPinned), bad(1, write(1, 7), api.ErrNotPinned), bad(1, unpin(1), api.ErrNotPinned),
		ok(0, remove(1)),
		bad(0, read(1), api.ErrUnknown), bad(1, read(1), api.ErrUnknown), bad(1, write(1, 7), api.ErrUnknown), bad(1, unpin(1), api.ErrUnknown),
	)
	wantPins(t, f, p, 1, 0, 0)
	if d.Reads()+d.Writes() != 0 {
		t.Error("the disk was asked")
	}
}

// P11.1: each New and Fetch is a pin of its own, that one Unpin lets go; the other's are left.
func TestManyPins(t *testing.T) {
	p, _ := makePool(t, 3, 9)
	f := play(t, p, 3,
		came(0, 1), came(1, 2), ok(0, fetch(1)), ok(0, fetch(2)), ok(2, fetch(2)), ok(1, fetch(2)), ok(1, fetch(1)),
	)
	wantPins(t, f, p, 1, 2, 1, 0)
	wantPins(t, f, p, 2, 1, 2, 1)
	wantPins(t, f, p, 3, 0, 0, 0)

	p, _ = makePool(t, 3, 9)
	f = play(t, p, 2,
		came(0, 1), ok(0, fetch(1)), ok(1, fetch(1)), ok(1, fetch(1)), ok(1, fetch(1)),
		ok(0, unpin(1)), ok(0, unpin(1)), bad(0, unpin(1), api.ErrNotPinned),
		ok(1, unpin(1)), seen(1, 1, 0), ok(1, unpin(1)), seen(1, 1, 0), bad(0, remove(1), api.ErrPinned), bad(1, remove(1), api.ErrPinned),
		ok(1, unpin(1)), bad(1, unpin(1), api.ErrNotPinned), ok(0, remove(1)),
		came(1, 1), bad(0, unpin(1), api.ErrNotPinned), bad(0, remove(1), api.ErrPinned),
	)
	wantPins(t, f, p, 1, 0, 1)
}

// P11.1: all else is the pool's call, whoever pins the page.
func TestAllElse(t *testing.T) {
	p, d := makePool(t, 1, 9)
	play(t, p, 2,
		came(0, 1), ok(0, write(1, 7)), ok(1, flush(1)), bad(1, remove(1), api.ErrPinned), bad(1, come(), api.ErrNoFrame),
		ok(0, write(1, 8)), ok(0, unpin(1)), came(1, 2), bad(0, fetch(1), api.ErrNoFrame), ok(1, write(2, 9)), ok(0, flushAll()),
		ok(0, remove(1)), bad(0, remove(2), api.ErrPinned), bad(0, flush(1), api.ErrUnknown),
	)
	if d.Writes() != 3 {
		t.Errorf("%d writes; want 3", d.Writes())
	}
	if v, e := d.Copy().Read(2); v != 9 || e != api.OK {
		t.Errorf("the disk holds %d, %v; want 9", v, e)
	}
}

// P11.1: of another Kind nothing is done, and no pin asked for; it is in the Log.
func TestOtherKinds(t *testing.T) {
	p, _ := makePool(t, 1, 9)
	turns := []turn{came(0, 1)}
	for _, kind := range []int{-1, 8, 9, math.MaxInt, math.MinInt} {
		for client := range 2 {
			turns = append(turns, bad(client, model.Op{Kind: kind, Id: 1, V: 5}, api.ErrArg), bad(client, model.Op{Kind: kind, Id: 2}, api.ErrArg))
		}
	}
	f := play(t, p, 2, append(turns, seen(0, 1, 0))...)
	wantPins(t, f, p, 1, 1, 0)
}

// P11.1: a New's pin is of the page that came, whatever Id the call has; the Log has calls as they were handed in.
func TestIdleFields(t *testing.T) {
	p, _ := makePool(t, 3, 9)
	f := play(t, p, 2,
		came(0, 1),
		turn{1, model.Op{Kind: model.New, Id: 1, V: 5}, model.Answer{Id: 2}},
		bad(1, read(1), api.ErrNotPinned), seen(1, 2, 0),
		ok(1, model.Op{Kind: model.Fetch, Id: 1, V: 5}), seen(1, 1, 0),
		ok(1, model.Op{Kind: model.FlushAll, Id: 77, V: 5}),
		ok(1, model.Op{Kind: model.Unpin, Id: 1, V: 5}),
	)
	wantPins(t, f, p, 1, 1, 0)
	wantPins(t, f, p, 2, 0, 1)
	wantPins(t, f, p, 77, 0, 0)
}

// P11.1, P11.3: a call with an error counts nothing, of whatever it is.
func TestErrorsCountNothing(t *testing.T) {
	p, d := makePool(t, 1, 2)
	f := play(t, p, 2,
		came(0, 1), bad(1, come(), api.ErrNoFrame), ok(0, unpin(1)),
		came(0, 2), bad(1, fetch(1), api.ErrNoFrame), bad(1, fetch(3), api.ErrUnknown), ok(0, unpin(2)),
		bad(1, come(), api.ErrFull), bad(1, unpin(2), api.ErrNotPinned),
	)
	for id := range uint32(4) {
		wantPins(t, f, p, id, 0, 0)
	}
	d.Stop(0)
	f = play(t, p, 2,
		bad(1, fetch(1), api.ErrDisk), bad(1, read(1), api.ErrNotPinned), ok(1, remove(1)),
		came(0, 1), ok(0, write(1, 7)), bad(0, flush(1), api.ErrDisk), bad(1, flushAll(), api.ErrDisk), ok(0, unpin(1)),
		bad(1, fetch(2), api.ErrDisk), ok(0, remove(2)), bad(1, come(), api.ErrDisk), bad(1, unpin(2), api.ErrUnknown), bad(1, unpin(1), api.ErrNotPinned),
	)
	for id := range uint32(4) {
		wantPins(t, f, p, id, 0, 0)
	}
}

// P11.1, Holds: 0 of a client that there isn't, and of any page but those that it pins.
func TestHolds(t *testing.T) {
	p, _ := makePool(t, 3, 9)
	f := play(t, p, 2, came(0, 1), ok(1, fetch(1)))
	wantPins(t, f, p, 1, 1, 1)
	for _, k := range []int{-1, 2, 3, 8, math.MaxInt, math.MinInt} {
		if n := f.Holds(k, 1); n != 0 {
			t.Errorf("Holds(%d, 1): %d; want 0", k, n)
		}
	}
	for _, id := range []uint32{0, 2, math.MaxUint32} {
		wantPins(t, f, p, id, 0, 0)
	}
}

// P11.1: two Fronts of one pool have pins and latches of their own.
func TestTwoFronts(t *testing.T) {
	p, _ := makePool(t, 3, 9)
	f := makeFront(t, p, []model.Op{come(), read(1)})
	g := makeFront(t, p, []model.Op{read(1), fetch(1)})
	f.Run([]int{0, 0})
	g.Run([]int{0, 0})
	wantLatch(t, f, 0)
	wantLatch(t, g, 0)
	if l := g.Log(); len(l) != 1 || l[0].Answer.Err != api.ErrNotPinned {
		t.Errorf("the second one: %v", l)
	}
	g.Rest()
	if f.Holds(0, 1) != 1 || g.Holds(0, 1) != 1 || p.Pins(1) != 2 {
		t.Errorf("%d and %d pins, in all %d; want 1, 1, 2", f.Holds(0, 1), g.Holds(0, 1), p.Pins(1))
	}
}

// P11.4, and rule 4: what is handed in isn't kept or changed, its spare room neither.
func TestArguments(t *testing.T) {
	p, _ := makePool(t, 3, 9)
	list := []model.Op{come(), write(1, 7), come(), read(1)}
	calls := [][]model.Op{list[:2], list[3:], list[:1]}
	picks := []int{0, 1, -1}
	f := makeFront(t, p, calls[:2]...)
	f.Run(picks[:2])
	if !slices.Equal(list, []model.Op{come(), write(1, 7), come(), read(1)}) || !slices.Equal(picks, []int{0, 1, -1}) || len(calls[2]) != 1 {
		t.Error("an argument was changed")
	}
	clear(list)
	clear(calls)
	clear(picks)
	f.Rest()
	want := []front.Entry{
		{Client: 0, Index: 0, Op: come(), Answer: model.Answer{Id: 1}},
		{Client: 1, Index: 0, Op: read(1), Answer: model.Answer{Err: api.ErrNotPinned}},
		{Client: 0, Index: 1, Op: write(1, 7)},
	}
	if l := f.Log(); !slices.Equal(l, want) {
		t.Errorf("%v; want %v", l, want)
	}
}

// P11.4: a Log is new memory, with its spare room.
func TestLogIsNew(t *testing.T) {
	p, _ := makePool(t, 3, 9)
	f := makeFront(t, p, slices.Repeat([]model.Op{come(), unpin(1), remove(1)}, 5))
	for range 13 {
		f.Run([]int{0, 0, 0})
		l, m := f.Log(), f.Log()
		was := slices.Clone(m)
		_ = append(l, front.Entry{Client: 9})
		clear(l)
		if !slices.Equal(m, was) || !slices.Equal(f.Log(), was) {
			t.Fatalf("behind %d calls a Log hangs on another one", len(was))
		}
		_ = append(m, front.Entry{Client: 9})
		f.Run([]int{0, 0, 0})
		if !slices.Equal(m, was) {
			t.Fatalf("behind %d calls a Log was changed by a step", len(was))
		}
		if now := f.Log(); !slices.Equal(now[:len(was)], was) || len(now) > len(was) && now[len(was)].Client != 0 {
			t.Fatalf("behind %d calls a step wrote into a Log that was handed out", len(was))
		}
	}
}

// P1: a nil Front, and one that New didn't make, answer, and nothing is done.
func TestNoFront(t *testing.T) {
	for _, f := range []*front.Front{nil, {}} {
		for _, k := range []int{0, 1, -1, math.MaxInt, math.MinInt} {
			wantPick(t, f, k, false, -1)
			if n := f.Holds(k, 1); n != 0 {
				t.Errorf("Holds: %d", n)
			}
		}
		f.Run(nil)
		f.Run([]int{0, -1, 1})
		f.Rest()
		wantLatch(t, f, -1)
		if l := f.Log(); len(l) != 0 {
			t.Errorf("Log: %v", l)
		}
	}
}

// P1: a pool that New didn't make.
func TestEmptyPool(t *testing.T) {
	f := makeFront(t, &pool.Pool{}, []model.Op{come(), fetch(1), unpin(1), read(1), write(1, 1), flush(1), flushAll(), remove(1)})
	f.Rest()
	if l := f.Log(); len(l) != 8 {
		t.Errorf("%d calls were done; want 8", len(l))
	}
}

// picker is a Replacer that picks clients of the Front, as it is told something.
type picker struct {
	lru.Replacer
	f **front.Front
}

func (p picker) Access(frame int, page uint32) {
	(*p.f).Run([]int{0, 1})
	(*p.f).Rest()
	p.Replacer.Access(frame, page)
}

// P1: calls end, though the Replacer makes such of the Front within them; a step that is being made is made once.
func TestPicker(t *testing.T) {
	var f *front.Front
	d, _ := disk.New(99)
	l, _ := lru.New(50)
	p, e := pool.New(d, 50, picker{l, &f})
	if e != api.OK {
		t.Fatal(e)
	}
	q, _ := makePool(t, 50, 99)
	calls := [][]model.Op{slices.Repeat([]model.Op{come()}, 5), slices.Repeat([]model.Op{come(), fetch(1)}, 5)}
	f = makeFront(t, p, calls...)
	g := makeFront(t, q, calls...)
	f.Rest()
	g.Rest()
	if !slices.Equal(f.Log(), g.Log()) || len(f.Log()) != 15 {
		t.Errorf("%v; want %v", f.Log(), g.Log())
	}
}
