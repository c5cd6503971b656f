package crash_test

import (
	"math"
	"slices"
	"testing"

	"hatcheck/api"
	"hatcheck/crash"
	"hatcheck/disk"
	"hatcheck/model"
)

// The calls.
func come() model.Op                     { return model.Op{Kind: model.New} }
func fetch(id uint32) model.Op           { return model.Op{Kind: model.Fetch, Id: id} }
func unpin(id uint32) model.Op           { return model.Op{Kind: model.Unpin, Id: id} }
func read(id uint32) model.Op            { return model.Op{Kind: model.Read, Id: id} }
func write(id uint32, v uint64) model.Op { return model.Op{Kind: model.Write, Id: id, V: v} }
func flush(id uint32) model.Op           { return model.Op{Kind: model.Flush, Id: id} }
func flushAll() model.Op                 { return model.Op{Kind: model.FlushAll} }
func remove(id uint32) model.Op          { return model.Op{Kind: model.Delete, Id: id} }

// done is a call, and what it answered.
type done struct {
	o model.Op
	a model.Answer
}

// came is a New that is OK, fine another call that is, failed one that isn't.
func came(id uint32) done                    { return done{come(), model.Answer{Id: id}} }
func fine(o model.Op) done                   { return done{o, model.Answer{}} }
func failed(o model.Op, e api.Errno) done    { return done{o, model.Answer{Err: e}} }
func may(id uint32, v ...uint64) crash.Claim { return crash.Claim{Id: id, Values: v} }

func split(l []done) ([]model.Op, []model.Answer) {
	var ops []model.Op
	var answers []model.Answer
	for _, c := range l {
		ops, answers = append(ops, c.o), append(answers, c.a)
	}
	return ops, answers
}

func sameClaims(l, m []crash.Claim) bool {
	return slices.EqualFunc(l, m, func(c, d crash.Claim) bool { return c.Id == d.Id && slices.Equal(c.Values, d.Values) })
}

// wantClaims is what calls and their answers are to claim.
func wantClaims(t *testing.T, calls []done, want ...crash.Claim) {
	t.Helper()
	if l := crash.Claims(split(calls)); !sameClaims(l, want) {
		t.Errorf("Claims of %v: %v; want %v", calls, l, want)
	}
}

// P12.1: the chapter's example.
func TestExample(t *testing.T) {
	wantClaims(t, []done{came(1), fine(write(1, 5)), fine(flush(1)), fine(write(1, 6))}, may(1, 5, 6))
}

// P12.1, Claims: New: by the answer's Id, 0 alone; also where there is such a page.
func TestClaimsOfNew(t *testing.T) {
	wantClaims(t, nil)
	wantClaims(t, []done{came(1)}, may(1, 0))
	wantClaims(t, []done{{model.Op{Kind: model.New, Id: 7, V: 9}, model.Answer{Id: 2, V: 8}}}, may(2, 0))
	wantClaims(t, []done{came(1), fine(write(1, 5)), fine(write(1, 6)), came(1)}, may(1, 0))
	wantClaims(t, []done{came(1), fine(write(1, 5)), came(1), fine(flush(1))}, may(1, 0))
	wantClaims(t, []done{came(1), fine(write(1, 5)), came(1), fine(flushAll())}, may(1, 0))
	wantClaims(t, []done{came(1), fine(write(1, 5)), fine(flush(1)), came(1), fine(write(1, 6))}, may(1, 0, 6))
}

// P12.1, Claims: Write: behind what the page may hold; each value as often as it came.
func TestClaimsOfWrite(t *testing.T) {
	wantClaims(t, []done{came(1), fine(write(1, 5))}, may(1, 0, 5))
	wantClaims(t, []done{came(1), fine(write(1, 9)), fine(write(1, 0)), fine(write(1, 9)), fine(write(1, 9)), fine(write(1, 3))}, may(1, 0, 9, 0, 9, 9, 3))
	wantClaims(t, []done{came(1), came(2), fine(write(2, math.MaxUint64)), fine(write(1, 6))}, may(1, 0, 6), may(2, 0, math.MaxUint64))
	wantClaims(t, []done{came(1), {write(1, 5), model.Answer{Id: 2, V: 7}}}, may(1, 0, 5))
	wantClaims(t, []done{fine(write(1, 5))})
	wantClaims(t, []done{fine(write(2, 5)), came(2), fine(write(1, 4))}, may(2, 0))
}

// P12.1, Claims: Flush: what that page holds in its frame, alone.
func TestClaimsOfFlush(t *testing.T) {
	wantClaims(t, []done{came(1), fine(flush(1))}, may(1, 0))
	wantClaims(t, []done{came(1), fine(write(1, 5)), fine(write(1, 6)), fine(flush(1))}, may(1, 6))
	wantClaims(t, []done{came(1), fine(write(1, 5)), fine(flush(1)), fine(flush(1))}, may(1, 5))
	wantClaims(t, []done{came(1), fine(write(1, 5)), fine(flush(1)), fine(write(1, 5)), fine(write(1, 6))}, may(1, 5, 5, 6))
	wantClaims(t, []done{came(1), came(2), fine(write(1, 5)), fine(write(2, 6)), fine(flush(2))}, may(1, 0, 5), may(2, 6))
	wantClaims(t, []done{came(1), fine(write(1, 5)), fine(flush(2)), fine(flush(0))}, may(1, 0, 5))
	wantClaims(t, []done{came(1), fine(write(1, 5)), fine(model.Op{Kind: model.Flush, Id: 1, V: 8})}, may(1, 5))
}

// P12.1, Claims: FlushAll: that of all pages, whenever they were written.
func TestClaimsOfFlushAll(t *testing.T) {
	wantClaims(t, []done{fine(flushAll())})
	wantClaims(t, []done{came(1), fine(flushAll())}, may(1, 0))
	wantClaims(t, []done{came(1), came(2), came(3), fine(write(1, 5)), fine(write(3, 6)), fine(write(3, 7)), fine(flushAll())}, may(1, 5), may(2, 0), may(3, 7))
	wantClaims(t, []done{came(1), came(2), fine(write(1, 5)), fine(flushAll()), fine(write(2, 6))}, may(1, 5), may(2, 0, 6))
	wantClaims(t, []done{came(1), fine(write(1, 5)), fine(flushAll()), fine(write(1, 6)), fine(flushAll())}, may(1, 6))
	wantClaims(t, []done{came(1), fine(write(1, 5)), fine(flush(1)), fine(write(1, 6)), fine(flushAll())}, may(1, 6))
	wantClaims(t, []done{came(1), fine(write(1, 5)), came(1), fine(write(1, 6)), fine(flushAll())}, may(1, 6))
	wantClaims(t, []done{came(1), fine(write(1, 5)), {model.Op{Kind: model.FlushAll, Id: 9, V: 8}, model.Answer{Id: 9}}}, may(1, 5))
}

// P12.1, Claims: Delete: the page goes; it comes again by a New alone.
func TestClaimsOfDelete(t *testing.T) {
	wantClaims(t, []done{came(1), fine(remove(1))})
	wantClaims(t, []done{came(1), came(2), fine(write(1, 5)), fine(remove(1))}, may(2, 0))
	wantClaims(t, []done{came(2), fine(remove(1)), fine(remove(0))}, may(2, 0))
	wantClaims(t, []done{came(1), fine(write(1, 5)), fine(remove(1)), fine(write(1, 6)), fine(flush(1)), fine(flushAll()), fine(remove(1))})
	wantClaims(t, []done{came(1), fine(write(1, 5)), fine(remove(1)), came(1)}, may(1, 0))
	wantClaims(t, []done{came(1), fine(write(1, 5)), fine(remove(1)), came(1), fine(write(1, 6))}, may(1, 0, 6))
	wantClaims(t, []done{came(1), fine(write(1, 5)), fine(remove(1)), came(1), fine(write(1, 6)), fine(flushAll())}, may(1, 6))
}

// P12.1, Claims: what isn't OK does nothing, nor does a call of another Kind.
func TestClaimsOfOthers(t *testing.T) {
	before := []done{came(1), came(2), fine(write(1, 5)), fine(write(2, 6)), fine(flush(2)), fine(write(2, 7))}
	want := []crash.Claim{may(1, 0, 5), may(2, 6, 7)}
	ops := []model.Op{come(), fetch(1), unpin(1), read(1), write(1, 8), flush(1), flushAll(), remove(1), {Kind: -1, Id: 1, V: 8}, {Kind: 8, Id: 1, V: 8}}
	for _, o := range ops {
		for _, e := range []api.Errno{1, 2, 3, 4, 5, 6, 7, 8, 9, -1, math.MaxInt, math.MinInt} {
			for id := range uint32(4) {
				wantClaims(t, append(slices.Clone(before), done{o, model.Answer{Err: e, Id: id, V: 9}}), want...)
			}
		}
	}
	for _, kind := range []int{model.Fetch, model.Unpin, model.Read, -1, 8, 9, math.MaxInt, math.MinInt} {
		for id := range uint32(4) {
			wantClaims(t, append(slices.Clone(before), done{model.Op{Kind: kind, Id: id, V: 8}, model.Answer{Id: id, V: 9}}), want...)
		}
	}
}

// P12.1, Claims: rising by Id, whatever the order in which the pages came.
func TestClaimsRise(t *testing.T) {
	var calls []done
	for _, id := range []uint32{70000, 3, math.MaxUint32, 0, 1 << 31, 2, 1<<31 - 1, 3, 65535} {
		calls = append(calls, came(id), fine(write(id, uint64(id)+1)))
	}
	wantClaims(t, calls, may(0, 0, 1), may(2, 0, 3), may(3, 0, 4), may(65535, 0, 65536), may(70000, 0, 70001),
		may(1<<31-1, 0, 1<<31), may(1<<31, 0, 1<<31+1), may(math.MaxUint32, 0, 1<<32))
}

// P12.1, Claims: of lists of unlike lengths as many as the shorter one has.
func TestClaimsOfUnlikeLists(t *testing.T) {
	ops, answers := split([]done{came(1), fine(write(1, 5)), fine(write(1, 6)), came(2)})
	wants := [][]crash.Claim{{}, {may(1, 0)}, {may(1, 0, 5)}, {may(1, 0, 5, 6)}, {may(1, 0, 5, 6), may(2, 0)}}
	for i := range 5 {
		for k := range 5 {
			if l := crash.Claims(ops[:i], answers[:k]); !sameClaims(l, wants[min(i, k)]) {
				t.Errorf("Claims of %d ops and %d answers: %v; want %v", i, k, l, wants[min(i, k)])
			}
		}
	}
	if l := crash.Claims(nil, nil); len(l) != 0 {
		t.Errorf("Claims of nothing: %v", l)
	}
}

// P12.1, and P1, Claims: many calls of many pages end soon.
func TestManyCalls(t *testing.T) {
	var calls []done
	for id := uint32(1); id <= api.MaxPages; id++ {
		calls = append(calls, came(id), fine(write(id, 3)))
	}
	for i := range uint64(200000) {
		calls = append(calls, fine(write(9, i)), fine(flushAll()))
	}
	l := crash.Claims(split(calls))
	if len(l) != api.MaxPages || !sameClaims(l[7:9], []crash.Claim{may(8, 3), may(9, 199999)}) {
		t.Errorf("%d Claims", len(l))
	}
}

// diskOf is of room for one page more than there are values, each of which is a page's.
func diskOf(t *testing.T, values ...uint64) *disk.Disk {
	t.Helper()
	d, e := disk.New(len(values) + 1)
	if e != api.OK {
		t.Fatal(e)
	}
	for _, v := range values {
		id, e := d.Alloc()
		if f := d.Write(id, v); e != api.OK || f != api.OK {
			t.Fatal(e, f)
		}
	}
	return d
}

func wantLeft(t *testing.T, d *disk.Disk, want bool, l ...crash.Claim) {
	t.Helper()
	if ok := crash.Left(d, l); ok != want {
		t.Errorf("Left of %v: %v; want %v", l, ok, want)
	}
}

// P12.1, Left: just those pages, and each holds one of its Values.
func TestLeft(t *testing.T) {
	d := diskOf(t, 5, 0, math.MaxUint64)
	wantLeft(t, d, true, may(1, 5), may(2, 0), may(3, math.MaxUint64))
	wantLeft(t, d, true, may(1, 0, 5), may(2, 1, 0, 2), may(3, math.MaxUint64, math.MaxUint64))
	// A value that it doesn't hold, or none at all.
	wantLeft(t, d, false, may(1, 4, 6), may(2, 0), may(3, math.MaxUint64))
	wantLeft(t, d, false, may(1, 5), may(2, 0), may(3, 0))
	wantLeft(t, d, false, may(1, 5), may(2), may(3, math.MaxUint64))
	// A page too few, one too many, another one.
	wantLeft(t, d, false, may(1, 5), may(2, 0))
	wantLeft(t, d, false, may(2, 0), may(3, math.MaxUint64))
	wantLeft(t, d, false, may(1, 5), may(2, 0), may(3, math.MaxUint64), may(4, 0))
	wantLeft(t, d, false, may(0, 0), may(1, 5), may(2, 0), may(3, math.MaxUint64))
	wantLeft(t, d, false, may(1, 5), may(2, 0), may(4, math.MaxUint64))
	wantLeft(t, d, false)
	// Not rising.
	wantLeft(t, d, false, may(2, 0), may(1, 5), may(3, math.MaxUint64))
	wantLeft(t, d, false, may(1, 5), may(1, 5), may(2, 0), may(3, math.MaxUint64))
	// An id that comes to a page's in fewer bits.
	wantLeft(t, d, false, may(1<<16+1, 5), may(2, 0), may(3, math.MaxUint64))
	if d.Free(2) != api.OK {
		t.Fatal("page 2 isn't there")
	}
	wantLeft(t, d, false, may(1, 5), may(2, 0), may(3, math.MaxUint64))
	wantLeft(t, d, true, may(1, 5), may(3, math.MaxUint64))
}

// P12.1, Left: no pages, and no disk.
func TestLeftOfNothing(t *testing.T) {
	wantLeft(t, diskOf(t), true)
	wantLeft(t, diskOf(t), false, may(1, 0))
	wantLeft(t, nil, false)
	wantLeft(t, nil, false, may(1, 0))
	wantLeft(t, new(disk.Disk), true)
	wantLeft(t, new(disk.Disk), false, may(0, 0))
}

// P12.1, Left: the pages are read of a Copy: nothing fails, and nothing counts.
func TestLeftReadsCopy(t *testing.T) {
	d := diskOf(t, 5, 6)
	d.Fail(1, false, 1)
	wantLeft(t, d, true, may(1, 5), may(2, 6))
	if _, e := d.Read(1); e != api.ErrDisk {
		t.Errorf("the Read that is to fail: %v", e)
	}
	d.Stop(1)
	wantLeft(t, d, true, may(1, 5), may(2, 6))
	if v, e := d.Read(1); v != 5 || e != api.OK || d.Reads() != 1 || d.Writes() != 2 {
		t.Errorf("Read: %d, %v; Reads and Writes: %d, %d", v, e, d.Reads(), d.Writes())
	}
	wantLeft(t, d, true, may(1, 5), may(2, 6))
}
