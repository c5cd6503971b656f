package crash_test

import (
	"math"
	"slices"
	"testing"

	"hatcheck/api"
	"hatcheck/crash"
	"hatcheck/disk"
	"hatcheck/model"
)

// P12.1, Replay: in one frame each access can be told: page 1 goes, as page 2 comes (a write), page 2, as page 1 is fetched (a write, a read), and FlushAll writes page 1.
func TestReplay(t *testing.T) {
	ops := []model.Op{come(), write(1, 5), unpin(1), come(), write(2, 6), unpin(2), fetch(1), write(1, 7), flushAll(), read(1)}
	no, unknown := model.Answer{Err: api.ErrDisk}, model.Answer{Err: api.ErrUnknown}
	unpinned := model.Answer{Err: api.ErrNotPinned}
	first, second := model.Answer{Id: 1}, model.Answer{Id: 2}
	ok, seven := model.Answer{}, model.Answer{V: 7}
	wants := [][]model.Answer{
		{first, ok, ok, no, unknown, unknown, ok, ok, no, seven},
		{first, ok, ok, second, ok, ok, no, unpinned, no, unpinned},
		{first, ok, ok, second, ok, ok, no, unpinned, ok, unpinned},
		{first, ok, ok, second, ok, ok, ok, ok, no, seven},
		{first, ok, ok, second, ok, ok, ok, ok, ok, seven},
	}
	left := [][]crash.Claim{{may(1, 0)}, {may(1, 5), may(2, 0)}, {may(1, 5), may(2, 6)}, {may(1, 5), may(2, 6)}, {may(1, 7), may(2, 6)}}
	for _, name := range crash.Policies() {
		for _, after := range []int{math.MinInt, -1, 0, 1, 2, 3, 4, 5, math.MaxInt} {
			i := min(max(after, 0), 4)
			a, l := crash.Replay(emptyDisk(t, 9), 1, name, ops, after)
			if !slices.Equal(a, wants[i]) {
				t.Errorf("%s, behind %d: %v; want %v", name, after, a, wants[i])
			}
			wantLeft(t, l, true, left[i]...)
		}
	}
}

// P12.1, Replay: of a disk that has pages, on a Copy of it: it stays as it was, and what is to fail of it, or that it stopped, isn't the Copy's.
func TestReplayOfPages(t *testing.T) {
	ops := []model.Op{fetch(1), read(1), write(1, 8), fetch(2), unpin(1), come(), remove(1), flush(2), flushAll(), read(3)}
	want := []model.Answer{{}, {V: 5}, {}, {}, {}, {Id: 3}, {}, {}, {}, {}}
	for _, name := range crash.Policies() {
		d := diskOf(t, 5, 6)
		d.Fail(1, false, 1)
		d.Fail(2, true, 1)
		d.Stop(0)
		for range 2 {
			a, left := crash.Replay(d, 3, name, ops, 9)
			if !slices.Equal(a, want) {
				t.Errorf("%s: %v; want %v", name, a, want)
			}
			wantLeft(t, left, true, may(2, 6), may(3, 0))
		}
		wantLeft(t, d, true, may(1, 5), may(2, 6))
		if _, e := d.Read(2); e != api.ErrDisk || d.Reads() != 0 || d.Writes() != 2 {
			t.Errorf("%s: the disk's Read: %v; Reads and Writes %d, %d", name, e, d.Reads(), d.Writes())
		}
		d.Stop(9)
		if _, e := d.Read(1); e != api.ErrDisk {
			t.Errorf("%s: the Read that is to fail: %v", name, e)
		}
		if e := d.Write(2, 6); e != api.ErrDisk {
			t.Errorf("%s: the Write that is to fail: %v", name, e)
		}
	}
}

// P12.1, Replay: what is left is a Copy: it goes on, it counts from 0 on, and it has the disk's room.
func TestReplayLeavesCopy(t *testing.T) {
	ops := []model.Op{come(), write(1, 5), flush(1), write(1, 6), flush(1)}
	a, left := crash.Replay(emptyDisk(t, 2), 3, "arc", ops, 1)
	if want := []model.Answer{{Id: 1}, {}, {}, {}, {Err: api.ErrDisk}}; !slices.Equal(a, want) {
		t.Errorf("%v; want %v", a, want)
	}
	if left.Reads() != 0 || left.Writes() != 0 {
		t.Errorf("Reads and Writes: %d, %d; want 0", left.Reads(), left.Writes())
	}
	if v, e := left.Read(1); v != 5 || e != api.OK {
		t.Errorf("Read: %d, %v; want 5", v, e)
	}
	if e := left.Write(1, 7); e != api.OK {
		t.Errorf("Write: %v", e)
	}
	if id, e := left.Alloc(); id != 2 || e != api.OK {
		t.Errorf("Alloc: %d, %v; want 2", id, e)
	}
	if _, e := left.Alloc(); e != api.ErrFull {
		t.Errorf("Alloc: %v; want ErrFull", e)
	}
}

// P12.1, Replay: of no calls, and of such as aren't any.
func TestReplayOfNothing(t *testing.T) {
	for _, ops := range [][]model.Op{nil, {}} {
		a, left := crash.Replay(diskOf(t, 5), 1, "pro", ops, 0)
		if len(a) != 0 {
			t.Errorf("%v; want nothing", a)
		}
		wantLeft(t, left, true, may(1, 5))
	}
	ops := []model.Op{{Kind: -1, Id: 1}, {Kind: 8, Id: 1}, {Kind: math.MaxInt}, {Kind: math.MinInt, Id: math.MaxUint32, V: math.MaxUint64}}
	a, left := crash.Replay(diskOf(t, 5), 1, "pro", ops, 0)
	if bad := (model.Answer{Err: api.ErrArg}); !slices.Equal(a, []model.Answer{bad, bad, bad, bad}) {
		t.Errorf("%v; want ErrArg of each", a)
	}
	wantLeft(t, left, true, may(1, 5))
}

// P12.1, Replay: nothing, if there is no disk, no such policy, or not so many frames.
func TestNoReplay(t *testing.T) {
	ops := []model.Op{come()}
	wantNone := func(d *disk.Disk, frames int, name string) {
		t.Helper()
		if a, left := crash.Replay(d, frames, name, ops, 9); a != nil || left != nil {
			t.Errorf("Replay(%v, %d, %q): %v, %v; want nil, nil", d != nil, frames, name, a, left)
		}
	}
	d := emptyDisk(t, 3)
	for _, name := range crash.Policies() {
		wantNone(nil, 1, name)
		for _, frames := range []int{0, -1, 65536, math.MaxInt, math.MinInt} {
			wantNone(d, frames, name)
		}
		for _, frames := range []int{1, api.MaxFrames} {
			a, left := crash.Replay(d, frames, name, ops, 9)
			if !slices.Equal(a, []model.Answer{{Id: 1}}) {
				t.Errorf("Replay(%d, %q): %v", frames, name, a)
			}
			wantLeft(t, left, true, may(1, 0))
		}
	}
	for _, name := range []string{"", "none", "LRU", "lru "} {
		wantNone(d, 1, name)
		wantNone(nil, 0, name)
	}
	wantLeft(t, d, true)
}

// P1: a disk that New didn't make has no room.
func TestReplayOfMadeUpDisk(t *testing.T) {
	ops := []model.Op{come(), fetch(0), fetch(1), unpin(0), read(0), write(0, 5), flush(0), flushAll(), remove(0)}
	for _, name := range crash.Policies() {
		a, left := crash.Replay(new(disk.Disk), 2, name, ops, 3)
		if len(a) != len(ops) || a[0].Err != api.ErrFull {
			t.Errorf("%s: %v", name, a)
		}
		wantLeft(t, left, true)
	}
}

// spare is a list with room behind its end, that is not to be changed either.
func spare[T any](l []T, more T) []T { return append(slices.Clone(l), more, more)[:len(l)] }

// P12.4: Claims keep and change nothing that they are given, and share nothing, nor do their Values one with another.
func TestNewClaims(t *testing.T) {
	ops, answers := split([]done{came(1), came(2), came(3), fine(write(1, 5)), fine(write(2, 6)), fine(write(2, 7)), fine(flush(1)), fine(flushAll()), fine(write(3, 8)), fine(write(1, 9))})
	o, a := spare(ops, flush(9)), spare(answers, model.Answer{Id: 9})
	want := []crash.Claim{may(1, 5, 9), may(2, 7), may(3, 0, 8)}
	l := crash.Claims(o, a)
	if !slices.Equal(o[:len(ops)+2], append(ops, flush(9), flush(9))) || !slices.Equal(a[:len(ops)+2], append(answers, model.Answer{Id: 9}, model.Answer{Id: 9})) {
		t.Errorf("Claims changed what it was given: %v, %v", o, a)
	}
	m := crash.Claims(o, a)
	clear(o)
	clear(a)
	if !sameClaims(l, want) {
		t.Errorf("%v; want %v", l, want)
	}
	for i := range l {
		clear(l[i].Values[:cap(l[i].Values)])
		for k := i + 1; k < len(l); k++ {
			if !slices.Equal(l[k].Values, want[k].Values) {
				t.Errorf("the Values of %d share something with those of %d", l[k].Id, l[i].Id)
			}
		}
	}
	clear(l)
	if !sameClaims(m, want) {
		t.Errorf("when another answer was changed: %v; want %v", m, want)
	}
}

// P12.4: Left changes nothing that it is given.
func TestLeftChangesNothing(t *testing.T) {
	l := []crash.Claim{{1, spare([]uint64{7, 5}, 3)}, {2, spare([]uint64{6, 0}, 2)}}
	wantLeft(t, diskOf(t, 5, 6), true, l...)
	if !sameClaims(l, []crash.Claim{may(1, 7, 5), may(2, 6, 0)}) || l[0].Values[:3][2] != 3 || l[1].Values[:3][2] != 2 {
		t.Errorf("Left changed what it was given: %v", l)
	}
}

// P12.4: Replay keeps and changes nothing that it is given; neither the answers nor what is left share anything.
func TestNewReplay(t *testing.T) {
	ops := []model.Op{fetch(1), write(1, 8), come(), flushAll()}
	want := []model.Answer{{}, {}, {Id: 2}, {}}
	d := diskOf(t, 5)
	o := spare(ops, flush(9))
	a, left := crash.Replay(d, 2, "twoq", o, 9)
	if !slices.Equal(o[:len(ops)+2], append(ops, flush(9), flush(9))) {
		t.Errorf("Replay changed its calls: %v", o)
	}
	b, other := crash.Replay(d, 2, "twoq", o, 9)
	clear(o)
	clear(a)
	if !slices.Equal(b, want) {
		t.Errorf("when other answers were changed: %v; want %v", b, want)
	}
	left.Write(1, 9)
	left.Free(2)
	wantLeft(t, other, true, may(1, 8), may(2, 0))
	wantLeft(t, d, true, may(1, 5))
	d.Write(1, 3)
	d.Alloc()
	wantLeft(t, left, true, may(1, 9))
	wantLeft(t, other, true, may(1, 8), may(2, 0))
}
