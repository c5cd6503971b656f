package model_test

import (
	"math"
	"testing"

	"hatcheck/api"
	"hatcheck/disk"
	"hatcheck/lru"
	"hatcheck/model"
	"hatcheck/pool"
)

// done is a call, and what it is to answer.
type done struct {
	o    model.Op
	want model.Answer
}

// The calls, each with its answer.
func came(id uint32, e api.Errno) done {
	return done{model.Op{Kind: model.New}, model.Answer{Err: e, Id: id}}
}

func fetch(id uint32, e api.Errno) done {
	return done{model.Op{Kind: model.Fetch, Id: id}, model.Answer{Err: e}}
}

func unpin(id uint32, e api.Errno) done {
	return done{model.Op{Kind: model.Unpin, Id: id}, model.Answer{Err: e}}
}

func read(id uint32, v uint64, e api.Errno) done {
	return done{model.Op{Kind: model.Read, Id: id}, model.Answer{Err: e, V: v}}
}

func write(id uint32, v uint64, e api.Errno) done {
	return done{model.Op{Kind: model.Write, Id: id, V: v}, model.Answer{Err: e}}
}

func flush(id uint32, e api.Errno) done {
	return done{model.Op{Kind: model.Flush, Id: id}, model.Answer{Err: e}}
}

func flushAll(e api.Errno) done {
	return done{model.Op{Kind: model.FlushAll}, model.Answer{Err: e}}
}

func remove(id uint32, e api.Errno) done {
	return done{model.Op{Kind: model.Delete, Id: id}, model.Answer{Err: e}}
}

func begin(t *testing.T, frames, room int) *model.Model {
	t.Helper()
	m, e := model.Begin(frames, room)
	if m == nil || e != api.OK {
		t.Fatalf("Begin(%d, %d): %v, %v", frames, room, m, e)
	}
	return m
}

func makePool(t *testing.T, frames, room int) (*pool.Pool, *disk.Disk) {
	t.Helper()
	d, e := disk.New(room)
	r, f := lru.New(frames)
	p, g := pool.New(d, frames, r)
	if e != api.OK || f != api.OK || g != api.OK {
		t.Fatal(e, f, g)
	}
	return p, d
}

// both does calls of a Model, and of a Pool that is like it.
func both(t *testing.T, frames, room int, calls ...done) *model.Model {
	t.Helper()
	m := begin(t, frames, room)
	p, _ := makePool(t, frames, room)
	for i, c := range calls {
		if a := m.Do(c.o); a != c.want {
			t.Errorf("call %d, %v, of the Model: %v; want %v", i, c.o, a, c.want)
		}
		if a := model.Call(p, c.o); a != c.want {
			t.Errorf("call %d, %v, of the Pool: %v; want %v", i, c.o, a, c.want)
		}
	}
	return m
}

func wantValue(t *testing.T, m *model.Model, id uint32, v uint64, there bool) {
	t.Helper()
	if got, ok := m.Value(id); got != v || ok != there {
		t.Errorf("Value(%d): %d, %v; want %d, %v", id, got, ok, v, there)
	}
}

// P10.1, Begin.
func TestBegin(t *testing.T) {
	bad := []int{0, -1, 65536, math.MaxInt, math.MinInt}
	for _, n := range bad {
		for _, l := range [][2]int{{n, 1}, {1, n}, {n, n}} {
			if m, e := model.Begin(l[0], l[1]); m != nil || e != api.ErrArg {
				t.Errorf("Begin(%d, %d): %v, %v; want nil, ErrArg", l[0], l[1], m, e)
			}
		}
	}
	for _, l := range [][2]int{{1, 1}, {1, api.MaxPages}, {api.MaxFrames, 1}, {api.MaxFrames, api.MaxPages}} {
		m := begin(t, l[0], l[1])
		wantValue(t, m, 1, 0, false)
		if a := m.Do(model.Op{Kind: model.New}); a != (model.Answer{Id: 1}) {
			t.Errorf("Begin(%d, %d), New: %v", l[0], l[1], a)
		}
	}
}

// P10.1: the chapter's example.
func TestExample(t *testing.T) {
	both(t, 1, 9, came(1, api.OK), came(0, api.ErrNoFrame))
}

// P10.1: the kinds' numbers.
func TestKinds(t *testing.T) {
	kinds := []int{model.New, model.Fetch, model.Unpin, model.Read, model.Write, model.Flush, model.FlushAll, model.Delete}
	for i, kind := range kinds {
		if kind != i {
			t.Errorf("the kind in place %d: %d", i, kind)
		}
	}
}

// P10.1, New: no frame ahead of full; the least id that none has; it holds 0.
func TestNew(t *testing.T) {
	both(t, 2, 3,
		came(1, api.OK), came(2, api.OK), came(0, api.ErrNoFrame),
		fetch(1, api.OK), unpin(1, api.OK), came(0, api.ErrNoFrame),
		write(1, 7, api.OK), unpin(1, api.OK),
		came(3, api.OK), came(0, api.ErrNoFrame),
		unpin(3, api.OK), came(0, api.ErrFull),
		remove(3, api.OK), remove(1, api.OK),
		came(1, api.OK), read(1, 0, api.OK), unpin(1, api.OK),
		came(3, api.OK), unpin(3, api.OK), came(0, api.ErrFull),
		unpin(2, api.OK), came(0, api.ErrFull),
	)
	both(t, 9, 1, came(1, api.OK), came(0, api.ErrFull), unpin(1, api.OK), remove(1, api.OK), came(1, api.OK))
}

// P10.1, Fetch: a pinned one always may be once more.
func TestFetch(t *testing.T) {
	both(t, 1, 3,
		fetch(1, api.ErrUnknown), fetch(0, api.ErrUnknown), fetch(math.MaxUint32, api.ErrUnknown),
		came(1, api.OK), write(1, 5, api.OK), fetch(1, api.OK), fetch(2, api.ErrUnknown),
		unpin(1, api.OK), came(0, api.ErrNoFrame), unpin(1, api.OK),
		came(2, api.OK), fetch(1, api.ErrNoFrame), fetch(2, api.OK), fetch(3, api.ErrUnknown),
		unpin(2, api.OK), fetch(1, api.ErrNoFrame), unpin(2, api.OK),
		fetch(1, api.OK), read(1, 5, api.OK), fetch(2, api.ErrNoFrame),
	)
}

// P10.1, Unpin, Read and Write: of pinned pages alone.
func TestPinned(t *testing.T) {
	m := both(t, 2, 3,
		came(1, api.OK), came(2, api.OK),
		write(1, math.MaxUint64, api.OK), read(1, math.MaxUint64, api.OK), read(2, 0, api.OK),
		fetch(1, api.OK), unpin(1, api.OK), read(1, math.MaxUint64, api.OK), unpin(1, api.OK),
		unpin(1, api.ErrNotPinned), read(1, 0, api.ErrNotPinned), write(1, 5, api.ErrNotPinned),
		unpin(3, api.ErrUnknown), read(3, 0, api.ErrUnknown), write(3, 5, api.ErrUnknown),
		unpin(0, api.ErrUnknown), read(0, 0, api.ErrUnknown), write(0, 5, api.ErrUnknown),
		write(2, 8, api.OK), write(2, 9, api.OK), read(2, 9, api.OK),
	)
	wantValue(t, m, 0, 0, false)
	wantValue(t, m, 1, math.MaxUint64, true)
	wantValue(t, m, 2, 9, true)
	wantValue(t, m, 3, 0, false)
}

// P10.1, Flush and FlushAll: nothing is done.
func TestFlush(t *testing.T) {
	both(t, 1, 3,
		flushAll(api.OK), flush(1, api.ErrUnknown), flush(0, api.ErrUnknown),
		came(1, api.OK), write(1, 7, api.OK), flush(1, api.OK), read(1, 7, api.OK), flush(2, api.ErrUnknown),
		unpin(1, api.OK), flush(1, api.OK), flushAll(api.OK), unpin(1, api.ErrNotPinned),
		came(2, api.OK), flush(1, api.OK), flush(2, api.OK), flushAll(api.OK), fetch(1, api.ErrNoFrame),
	)
}

// P10.1, Delete: the page goes, and isn't pinned as it comes again but once.
func TestDelete(t *testing.T) {
	m := both(t, 2, 3,
		remove(1, api.ErrUnknown), remove(0, api.ErrUnknown),
		came(1, api.OK), write(1, 7, api.OK), remove(1, api.ErrPinned), read(1, 7, api.OK),
		fetch(1, api.OK), unpin(1, api.OK), remove(1, api.ErrPinned),
		unpin(1, api.OK), remove(1, api.OK), remove(1, api.ErrUnknown), read(1, 0, api.ErrUnknown),
		came(1, api.OK), came(2, api.OK), unpin(1, api.OK), unpin(1, api.ErrNotPinned), remove(1, api.OK),
	)
	wantValue(t, m, 1, 0, false)
	wantValue(t, m, 2, 0, true)
}

// P10.1: of what a kind has no use for nothing hangs.
func TestIdleFields(t *testing.T) {
	both(t, 2, 3,
		done{model.Op{Kind: model.New, Id: 77, V: 5}, model.Answer{Id: 1}},
		done{model.Op{Kind: model.Read, Id: 1, V: 5}, model.Answer{}},
		done{model.Op{Kind: model.Fetch, Id: 1, V: 5}, model.Answer{}},
		done{model.Op{Kind: model.Unpin, Id: 1, V: 5}, model.Answer{}},
		done{model.Op{Kind: model.Flush, Id: 1, V: 5}, model.Answer{}},
		done{model.Op{Kind: model.FlushAll, Id: 77, V: 5}, model.Answer{}},
		read(1, 0, api.OK), unpin(1, api.OK),
		done{model.Op{Kind: model.Delete, Id: 1, V: 5}, model.Answer{}},
	)
}

// P10.1: of another Kind nothing is done.
func TestOtherKinds(t *testing.T) {
	m := begin(t, 2, 3)
	p, d := makePool(t, 2, 3)
	m.Do(model.Op{Kind: model.New})
	model.Call(p, model.Op{Kind: model.New})
	for _, kind := range []int{-1, 8, 9, math.MaxInt, math.MinInt} {
		for id := range uint32(3) {
			o := model.Op{Kind: kind, Id: id, V: 5}
			if a, b := m.Do(o), model.Call(p, o); a != (model.Answer{Err: api.ErrArg}) || b != a {
				t.Errorf("%v: %v, %v; want ErrArg", o, a, b)
			}
		}
	}
	wantValue(t, m, 1, 0, true)
	wantValue(t, m, 2, 0, false)
	if p.Pins(1) != 1 || p.Has(2) || d.Reads()+d.Writes() != 0 {
		t.Error("the Pool isn't what it was")
	}
}

// P10.1, Call: each kind is that call of the Pool, whatever it answers.
func TestCall(t *testing.T) {
	p, d := makePool(t, 1, 9)
	for i, c := range []done{
		came(1, api.OK), write(1, 7, api.OK), read(1, 7, api.OK), flush(1, api.OK),
	} {
		if a := model.Call(p, c.o); a != c.want {
			t.Errorf("call %d: %v; want %v", i, a, c.want)
		}
	}
	if v, e := d.Copy().Read(1); v != 7 || e != api.OK || d.Writes() != 1 {
		t.Errorf("behind Flush the disk holds %d, %v", v, e)
	}
	d.Stop(0)
	for i, c := range []done{
		write(1, 8, api.OK), flush(1, api.ErrDisk), flushAll(api.ErrDisk), unpin(1, api.OK), came(0, api.ErrDisk), remove(1, api.OK),
		came(1, api.OK), unpin(1, api.OK), came(2, api.OK), unpin(2, api.OK), fetch(1, api.ErrDisk), came(3, api.OK),
	} {
		if a := model.Call(p, c.o); a != c.want {
			t.Errorf("call %d behind the stop: %v; want %v", i, a, c.want)
		}
	}
	d.Stop(9)
	for _, c := range []done{write(3, 9, api.OK), flushAll(api.OK)} {
		if a := model.Call(p, c.o); a != c.want {
			t.Errorf("%v: %v; want %v", c.o, a, c.want)
		}
	}
	if v, _ := d.Copy().Read(3); v != 9 {
		t.Errorf("behind FlushAll the disk holds %d", v)
	}
}

// P10.1, and P1 of this layer: a nil Model, and a nil Pool, and such as nobody made.
func TestNil(t *testing.T) {
	var none *model.Model
	for kind := -1; kind <= 8; kind++ {
		for id := range uint32(2) {
			o := model.Op{Kind: kind, Id: id, V: 5}
			if a, b := none.Do(o), model.Call(nil, o); a != (model.Answer{Err: api.ErrArg}) || b != a {
				t.Errorf("%v: %v, %v; want ErrArg", o, a, b)
			}
			new(model.Model).Do(o)
			model.Call(new(pool.Pool), o)
		}
	}
	wantValue(t, none, 0, 0, false)
	wantValue(t, none, 1, 0, false)
	wantValue(t, new(model.Model), 1, 0, false)
}

// P10.1: one Model has nothing of another one.
func TestApart(t *testing.T) {
	m, other := begin(t, 2, 3), begin(t, 2, 3)
	m.Do(model.Op{Kind: model.New})
	m.Do(model.Op{Kind: model.Write, Id: 1, V: 5})
	wantValue(t, other, 1, 0, false)
	if a := other.Do(model.Op{Kind: model.New}); a.Id != 1 {
		t.Errorf("New: %v; want 1", a)
	}
	wantValue(t, other, 1, 0, true)
	wantValue(t, m, 1, 5, true)
}

// P10.1: as much room as there may be; the least id that none has, in whatever order pages went.
func TestAllRoom(t *testing.T) {
	m := begin(t, api.MaxFrames, api.MaxPages)
	for round := range 2 {
		for id := uint32(1); id <= api.MaxPages; id++ {
			if a := m.Do(model.Op{Kind: model.New}); a != (model.Answer{Id: id}) {
				t.Fatalf("round %d: New: %v; want %d", round, a, id)
			}
			m.Do(model.Op{Kind: model.Write, Id: id, V: uint64(id)})
		}
		if a := m.Do(model.Op{Kind: model.New}); a != (model.Answer{Err: api.ErrNoFrame}) {
			t.Fatalf("round %d: New: %v; want ErrNoFrame", round, a)
		}
		// 7 and MaxPages have no divisor in common, so that this comes by each id, out of order.
		for i := range api.MaxPages {
			id := uint32(i*7%api.MaxPages) + 1
			wantValue(t, m, id, uint64(id), true)
			m.Do(model.Op{Kind: model.Unpin, Id: id})
			if a := m.Do(model.Op{Kind: model.Delete, Id: id}); a != (model.Answer{}) {
				t.Fatalf("round %d: Delete of %d: %v", round, id, a)
			}
		}
	}
}
