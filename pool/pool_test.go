package pool_test

import (
	"math"
	"slices"
	"testing"

	"hatcheck/api"
	"hatcheck/disk"
	"hatcheck/lru"
	"hatcheck/pool"
)

func makeDisk(t *testing.T, room int) *disk.Disk {
	t.Helper()
	d, e := disk.New(room)
	if e != api.OK {
		t.Fatalf("disk.New(%d): %v", room, e)
	}
	return d
}

func makeLRU(t *testing.T, frames int) lru.Replacer {
	t.Helper()
	l, e := lru.New(frames)
	if e != api.OK {
		t.Fatalf("lru.New(%d): %v", frames, e)
	}
	return l
}

// bench is a pool, its disk, and what its Replacer was told.
type bench struct {
	t *testing.T
	d *disk.Disk
	p *pool.Pool
	r *recorder
}

func newBench(t *testing.T, room, frames int, r lru.Replacer) bench {
	t.Helper()
	return benchOn(t, makeDisk(t, room), frames, r)
}

func benchOn(t *testing.T, d *disk.Disk, frames int, r lru.Replacer) bench {
	t.Helper()
	b := bench{t: t, d: d, r: &recorder{r: r}}
	p, e := pool.New(d, frames, b.r)
	if p == nil || e != api.OK {
		t.Fatalf("New: %v, %v", p, e)
	}
	b.p = p
	return b
}

func (b bench) want(what string, e, want api.Errno) {
	b.t.Helper()
	if e != want {
		b.t.Errorf("%s: %s; want %s", what, e.Word(), want.Word())
	}
}

func (b bench) newPage(id uint32, want api.Errno) {
	b.t.Helper()
	if i, e := b.p.NewPage(); i != id || e != want {
		b.t.Errorf("NewPage: %d, %s; want %d, %s", i, e.Word(), id, want.Word())
	}
}

func (b bench) fetch(id uint32, want api.Errno) {
	b.t.Helper()
	b.want("Fetch", b.p.Fetch(id), want)
}

func (b bench) unpin(id uint32, want api.Errno) {
	b.t.Helper()
	b.want("Unpin", b.p.Unpin(id), want)
}

func (b bench) read(id uint32, v uint64, want api.Errno) {
	b.t.Helper()
	if got, e := b.p.Read(id); got != v || e != want {
		b.t.Errorf("Read(%d): %d, %s; want %d, %s", id, got, e.Word(), v, want.Word())
	}
}

func (b bench) write(id uint32, v uint64, want api.Errno) {
	b.t.Helper()
	b.want("Write", b.p.Write(id, v), want)
}

func (b bench) flush(id uint32, want api.Errno) {
	b.t.Helper()
	b.want("Flush", b.p.Flush(id), want)
}

func (b bench) flushAll(want api.Errno) {
	b.t.Helper()
	b.want("FlushAll", b.p.FlushAll(), want)
}

func (b bench) remove(id uint32, want api.Errno) {
	b.t.Helper()
	b.want("Delete", b.p.Delete(id), want)
}

// pages are pinned once, in frames of their own, if there are so many, and hold 10 times their ids; then they are let go.
func (b bench) pages(ids ...uint32) {
	b.t.Helper()
	for _, id := range ids {
		b.newPage(id, api.OK)
		b.write(id, uint64(10*id), api.OK)
		b.unpin(id, api.OK)
	}
}

// frames are those of pages 1, 2 and so on.
func (b bench) frames(want ...int) {
	b.t.Helper()
	for i, f := range want {
		if got := b.p.Frame(uint32(i + 1)); got != f {
			b.t.Errorf("Frame(%d): %d; want %d", i+1, got, f)
		}
	}
}

func (b bench) pins(want ...int) {
	b.t.Helper()
	for i, n := range want {
		if got := b.p.Pins(uint32(i + 1)); got != n {
			b.t.Errorf("Pins(%d): %d; want %d", i+1, got, n)
		}
	}
}

func (b bench) scans(want int) {
	b.t.Helper()
	if n := b.p.Scans(); n != want {
		b.t.Errorf("Scans: %d; want %d", n, want)
	}
}

func (b bench) counts(reads, writes int) {
	b.t.Helper()
	if b.d.Reads() != reads || b.d.Writes() != writes {
		b.t.Errorf("Reads, Writes: %d, %d; want %d, %d", b.d.Reads(), b.d.Writes(), reads, writes)
	}
}

// onDisk is what the disk holds, page 1 first; a page that there isn't: 0.
func (b bench) onDisk(want ...uint64) {
	b.t.Helper()
	for i, v := range want {
		if got, _ := b.d.Copy().Read(uint32(i + 1)); got != v {
			b.t.Errorf("page %d on the disk: %d; want %d", i+1, got, v)
		}
	}
}

// told is what the Replacer was told since the last time that this was asked.
func (b bench) told(want ...string) {
	b.t.Helper()
	if !slices.Equal(b.r.told, want) {
		b.t.Errorf("told %q; want %q", b.r.told, want)
	}
	b.r.told = nil
}

// P9.1, New.
func TestNew(t *testing.T) {
	d := makeDisk(t, 3)
	for _, frames := range []int{0, -1, api.MaxFrames + 1, math.MaxInt, math.MinInt} {
		if p, e := pool.New(d, frames, pool.Advise(nil)); p != nil || e != api.ErrArg {
			t.Errorf("New of %d frames: %v, %v; want nil, ErrArg", frames, p, e)
		}
	}
	if p, e := pool.New(nil, 1, pool.Advise(nil)); p != nil || e != api.ErrArg {
		t.Errorf("New of no disk: %v, %v; want nil, ErrArg", p, e)
	}
	if p, e := pool.New(d, 1, nil); p != nil || e != api.ErrArg {
		t.Errorf("New of no Replacer: %v, %v; want nil, ErrArg", p, e)
	}
	for _, frames := range []int{1, 2, api.MaxFrames} {
		b := newBench(t, 3, frames, makeLRU(t, frames))
		b.told()
		b.scans(0)
		b.frames(-1, -1)
		b.pages(1, 2, 3)
	}
}

// P9.1: the chapter's example.
func TestExample(t *testing.T) {
	b := newBench(t, 9, 1, makeLRU(t, 1))
	b.newPage(1, api.OK)
	b.newPage(0, api.ErrNoFrame)
	b.unpin(1, api.OK)
	b.newPage(2, api.OK)
	b.fetch(1, api.ErrNoFrame)
}

// P9.1, New: the pages that the disk has are the pool's, in no frame yet.
func TestPagesThatWere(t *testing.T) {
	d := makeDisk(t, 4)
	for i := range 3 {
		id, _ := d.Alloc()
		d.Write(id, uint64(10+i))
	}
	d.Free(2)
	b := benchOn(t, d, 2, makeLRU(t, 2))
	b.frames(-1, -1, -1, -1)
	b.pins(0, 0, 0, 0)
	for id, has := range []bool{false, true, false, true, false} {
		if b.p.Has(uint32(id)) != has {
			t.Errorf("Has(%d): %v; want %v", id, !has, has)
		}
	}
	b.read(3, 0, api.ErrNotPinned)
	b.read(2, 0, api.ErrUnknown)
	b.fetch(3, api.OK)
	b.read(3, 12, api.OK)
	b.newPage(2, api.OK)
	b.read(2, 0, api.OK)
	b.frames(-1, 1, 0)
	b.remove(1, api.OK)
	b.fetch(1, api.ErrUnknown)
}

// P9.1, NewPage.
func TestNewPage(t *testing.T) {
	b := newBench(t, 3, 2, makeLRU(t, 2))
	b.newPage(1, api.OK)
	b.read(1, 0, api.OK)
	b.newPage(2, api.OK)
	b.frames(0, 1, -1)
	b.pins(1, 1, 0)
	b.newPage(0, api.ErrNoFrame)
	if b.p.Has(3) || len(b.d.Pages()) != 2 {
		t.Error("a page came, though there was no frame for it")
	}
	b.unpin(1, api.OK)
	b.newPage(3, api.OK)
	b.frames(-1, 1, 0)
	b.newPage(0, api.ErrNoFrame) // ahead of: full
	b.unpin(3, api.OK)
	b.told("miss 1", "access 0 1", "miss 2", "access 1 2", "set 0 true", "miss 3", "victim 3", "access 0 3", "set 0 true")
	b.newPage(0, api.ErrFull)
	b.told()
	b.frames(-1, 1, 0)
	b.counts(0, 0) // a new page isn't dirty
}

// P9.1, NewPage: it holds 0, whatever its frame, or a page of its id, held ahead of it.
func TestNewPageHoldsZero(t *testing.T) {
	b := newBench(t, 3, 1, makeLRU(t, 1))
	b.pages(1)
	b.newPage(2, api.OK)
	b.read(2, 0, api.OK)
	b.unpin(2, api.OK)
	b.remove(1, api.OK)
	b.newPage(1, api.OK)
	b.read(1, 0, api.OK)
	b.unpin(1, api.OK)
	b.fetch(2, api.OK)
	b.unpin(2, api.OK)
	b.fetch(1, api.OK)
	b.read(1, 0, api.OK)
	b.counts(2, 1)
}

// P9.1, NewPage: where the page that is to go can't be written, that stays, dirty, and the new one is no page any more.
func TestNewPageWriteFails(t *testing.T) {
	b := newBench(t, 3, 1, makeLRU(t, 1))
	b.pages(1)
	b.told("miss 1", "access 0 1", "set 0 true")
	b.d.Fail(1, true, 2)
	for range 2 {
		b.newPage(0, api.ErrDisk)
		b.told("miss 2", "victim 2", "access 0 1", "set 0 true")
		if b.p.Has(2) || !slices.Equal(b.d.Pages(), []uint32{1}) {
			t.Error("there is a page 2")
		}
		b.frames(0, -1)
		b.pins(0, 0)
	}
	b.newPage(2, api.OK)
	b.scans(0)
	b.counts(0, 1)
	b.onDisk(10)
	b.frames(-1, 0)
}

// P9.1 and P9.4, Fetch: read from the disk, just if it isn't in a frame.
func TestFetch(t *testing.T) {
	b := newBench(t, 4, 2, makeLRU(t, 2))
	b.pages(1, 2, 3)
	b.frames(-1, 1, 0)
	b.counts(0, 1)
	b.r.told = nil
	b.fetch(2, api.OK)
	b.told("access 1 2", "set 1 false")
	b.fetch(2, api.OK)
	b.told("access 1 2")
	b.pins(0, 2, 0)
	b.counts(0, 1)
	b.fetch(1, api.OK)
	b.told("miss 1", "victim 1", "access 0 1")
	b.frames(0, 1, -1)
	b.read(1, 10, api.OK)
	b.counts(1, 2)
	b.fetch(3, api.ErrNoFrame)
	b.fetch(4, api.ErrUnknown)
	b.fetch(0, api.ErrUnknown)
	b.fetch(math.MaxUint32, api.ErrUnknown)
	b.told()
	b.fetch(1, api.OK) // it is in a frame, so that none is wanted
	b.told("access 0 1")
	b.pins(2, 2, 0)
}

// P9.1, Fetch: where the page can't be read, its frame is empty; the page that went for it is gone.
func TestFetchReadFails(t *testing.T) {
	b := newBench(t, 4, 2, makeLRU(t, 2))
	b.pages(1, 2, 3)
	b.r.told = nil
	b.d.Fail(1, false, 2)
	b.fetch(1, api.ErrDisk)
	b.told("miss 1", "victim 1", "access 1 1", "remove 1")
	b.frames(-1, -1, 0)
	b.pins(0, 0, 0)
	b.counts(0, 2)
	b.fetch(1, api.ErrDisk) // an empty frame is taken ahead of one whose page may go
	b.told("miss 1", "access 1 1", "remove 1")
	b.frames(-1, -1, 0)
	b.read(1, 0, api.ErrNotPinned)
	b.unpin(1, api.ErrNotPinned)
	b.fetch(1, api.OK)
	b.told("miss 1", "access 1 1")
	b.read(1, 10, api.OK)
	b.pins(1, 0, 0)
	b.fetch(2, api.OK)
	b.read(2, 20, api.OK)
	b.scans(0)
	b.counts(2, 3)
}

// P9.1, Fetch: where the page that is to go can't be written, that stays, dirty, and nothing is read.
func TestFetchWriteFails(t *testing.T) {
	b := newBench(t, 4, 2, makeLRU(t, 2))
	b.pages(1, 2, 3)
	b.r.told = nil
	b.d.Fail(2, true, 1)
	b.d.Fail(1, false, 1)
	b.fetch(1, api.ErrDisk)
	b.told("miss 1", "victim 1", "access 1 2", "set 1 true")
	b.frames(-1, 1, 0)
	b.counts(0, 1)
	b.fetch(1, api.ErrDisk) // now page 3 goes, since 2 was touched, and the read fails
	b.told("miss 1", "victim 1", "access 0 1", "remove 0")
	b.frames(-1, 1, -1)
	b.counts(0, 2)
	b.fetch(2, api.OK)
	b.read(2, 20, api.OK)
	b.flush(2, api.OK)
	b.counts(0, 3)
	b.onDisk(10, 20, 30)
}

// P9.1, Unpin.
func TestUnpin(t *testing.T) {
	b := newBench(t, 4, 2, makeLRU(t, 2))
	b.newPage(1, api.OK)
	b.fetch(1, api.OK)
	b.pages(2, 3)
	b.r.told = nil
	b.unpin(1, api.OK)
	b.told()
	b.pins(1, 0, 0)
	b.unpin(1, api.OK)
	b.told("set 0 true")
	b.pins(0, 0, 0)
	for id, e := range []api.Errno{api.ErrUnknown, api.ErrNotPinned, api.ErrNotPinned, api.ErrNotPinned, api.ErrUnknown} {
		b.unpin(uint32(id), e)
	}
	b.unpin(math.MaxUint32, api.ErrUnknown)
	b.told()
	b.pins(0, 0, 0)
}

// P9.1, Read and Write: of pinned pages alone, wherever they are.
func TestReadWrite(t *testing.T) {
	b := newBench(t, 4, 2, makeLRU(t, 2))
	b.newPage(1, api.OK)
	b.pages(2, 3)
	b.r.told = nil
	b.write(1, math.MaxUint64, api.OK)
	b.read(1, math.MaxUint64, api.OK)
	b.write(1, 7, api.OK)
	b.read(1, 7, api.OK)
	for _, id := range []uint32{2, 3} { // in no frame; in one, but not pinned
		b.read(id, 0, api.ErrNotPinned)
		b.write(id, 5, api.ErrNotPinned)
	}
	for _, id := range []uint32{0, 4, math.MaxUint32} {
		b.read(id, 0, api.ErrUnknown)
		b.write(id, 5, api.ErrUnknown)
	}
	b.told()
	b.counts(0, 1)
	b.fetch(3, api.OK)
	b.read(3, 30, api.OK)
	b.flushAll(api.OK)
	b.onDisk(7, 20, 30)
}

// P9.1, Flush: just what is dirty is written, pinned or not.
func TestFlush(t *testing.T) {
	b := newBench(t, 4, 2, makeLRU(t, 2))
	b.pages(1, 2, 3)
	b.fetch(3, api.OK)
	b.r.told = nil
	b.counts(0, 1)
	b.flush(1, api.OK) // in no frame
	b.counts(0, 1)
	b.flush(2, api.OK)
	b.flush(3, api.OK)
	b.counts(0, 3)
	b.flush(2, api.OK)
	b.flush(3, api.OK)
	b.counts(0, 3)
	b.onDisk(10, 20, 30)
	b.write(3, 30, api.OK) // the same once more makes it dirty, too
	b.flush(3, api.OK)
	b.counts(0, 4)
	for _, id := range []uint32{0, 4, math.MaxUint32} {
		b.flush(id, api.ErrUnknown)
	}
	b.write(3, 33, api.OK)
	b.d.Fail(3, true, 1)
	b.flush(3, api.ErrDisk)
	b.onDisk(10, 20, 30)
	b.read(3, 33, api.OK)
	b.flush(3, api.OK)
	b.onDisk(10, 20, 33)
	b.told()
	b.pins(0, 0, 1)
}

// P9.1, FlushAll: rising by id, wherever the pages are, and behind one that fails, too.
func TestFlushAll(t *testing.T) {
	b := newBench(t, 4, 3, makeLRU(t, 3))
	b.flushAll(api.OK)
	b.pages(1, 2, 3)
	b.remove(1, api.OK)
	b.newPage(1, api.OK)
	b.remove(2, api.OK)
	b.remove(3, api.OK)
	b.pages(2)
	b.pages(3)
	b.remove(2, api.OK)
	b.fetch(3, api.OK)
	b.pages(2)
	b.frames(0, 1, 2)
	b.write(1, 11, api.OK)
	b.d.Fail(2, true, 1)
	b.flushAll(api.ErrDisk)
	b.onDisk(11, 0, 30)
	b.counts(0, 2)
	b.flushAll(api.OK)
	b.onDisk(11, 20, 30)
	b.counts(0, 3)
	b.flushAll(api.OK)
	b.counts(0, 3)
}

// P9.1, FlushAll: a disk that stops has the least ids' pages, whatever frames they are in.
func TestFlushAllRising(t *testing.T) {
	b := newBench(t, 4, 4, makeLRU(t, 4))
	b.pages(1, 2, 3, 4)
	for _, id := range []uint32{1, 2, 3} {
		b.remove(id, api.OK)
	}
	b.remove(4, api.OK)
	d := b.d.Copy()
	for range 4 {
		d.Alloc()
	}
	b = benchOn(t, d, 4, makeLRU(t, 4))
	for _, id := range []uint32{3, 1, 4, 2} {
		b.fetch(id, api.OK)
		b.write(id, uint64(id), api.OK)
	}
	b.frames(1, 3, 0, 2)
	d.Stop(2)
	b.flushAll(api.ErrDisk)
	b.onDisk(1, 2, 0, 0)
	d.Stop(1)
	b.flushAll(api.ErrDisk)
	b.onDisk(1, 2, 3, 0)
}

// P9.1, Delete.
func TestDelete(t *testing.T) {
	b := newBench(t, 4, 2, makeLRU(t, 2))
	b.pages(1, 2, 3)
	b.fetch(3, api.OK)
	b.r.told = nil
	b.remove(3, api.ErrPinned)
	for _, id := range []uint32{0, 4, math.MaxUint32} {
		b.remove(id, api.ErrUnknown)
	}
	b.remove(1, api.OK) // it is in no frame
	b.told()
	b.remove(2, api.OK)
	b.told("remove 1")
	b.remove(2, api.ErrUnknown)
	b.counts(0, 1) // what was dirty wasn't written
	b.frames(-1, -1, 0)
	b.pins(0, 0, 1)
	if b.p.Has(1) || b.p.Has(2) || !slices.Equal(b.d.Pages(), []uint32{3}) {
		t.Errorf("the disk's pages: %v; want 3 alone", b.d.Pages())
	}
	b.newPage(1, api.OK)
	b.told("miss 1", "access 1 1")
	b.unpin(3, api.OK)
	b.remove(3, api.OK)
	b.told("set 0 true", "remove 0")
	b.newPage(2, api.OK)
	b.frames(1, 0, -1)
}

// P9.1: of several empty frames the least one is taken, in whatever order they became so.
func TestLeastEmpty(t *testing.T) {
	b := newBench(t, 9, 4, makeLRU(t, 4))
	b.pages(1, 2, 3, 4)
	for _, id := range []uint32{3, 1, 4} {
		b.remove(id, api.OK)
	}
	b.pages(1)
	b.frames(0, 1, -1, -1)
	b.pages(3)
	b.frames(0, 1, 2, -1)
	b.remove(1, api.OK)
	b.fetch(2, api.OK)
	b.pages(1, 4, 5)
	b.frames(0, 1, -1, 3, 2)
	b.scans(0)
}

// P9.1: a scan: a victim that is none, or whose page is pinned, or told by false, isn't it.
func TestScan(t *testing.T) {
	advice := []int{1, 3, -1, math.MaxInt, math.MinInt, 0, 2}
	b := newBench(t, 99, 3, pool.Advise(advice))
	b.newPage(1, api.OK)
	b.write(1, 10, api.OK)
	b.pages(2, 3)
	b.r.told = nil
	b.newPage(4, api.OK) // frame 1
	b.told("miss 4", "victim 4", "access 1 4")
	b.scans(0)
	b.unpin(4, api.OK)
	b.r.told = nil
	for i, id := range []uint32{5, 6, 7, 8, 9} { // 3, -1, MaxInt, MinInt, and 0, which is pinned
		b.newPage(id, api.OK)
		b.scans(i + 1)
		b.told("miss "+text(int(id)), "victim "+text(int(id)), "remove 1", "access 1 "+text(int(id)))
		b.unpin(id, api.OK)
		b.r.told = nil
	}
	b.frames(0, -1, 2, -1, -1, -1, -1, -1, 1)
	b.newPage(10, api.OK) // frame 2
	b.told("miss 10", "victim 10", "access 2 10")
	b.newPage(11, api.OK) // behind the last one
	b.scans(6)
	b.newPage(0, api.ErrNoFrame)
	b.unpin(1, api.OK)
	b.r.told = nil
	b.fetch(9, api.OK)
	b.told("miss 9", "victim 9", "remove 0", "access 0 9")
	b.scans(7)
	b.onDisk(10, 20, 30)
}

// P9.1: a frame whose page isn't pinned is the victim, just if it was said that it is one.
func TestFalseIsNoFrame(t *testing.T) {
	b := newBench(t, 9, 2, liar{frame: 1})
	b.pages(1, 2, 3)
	b.frames(-1, 1, 0)
	b.scans(1)
}

// P9.1: where the page that is to go by a scan can't be written, that stays, and the scan counts.
func TestScanWriteFails(t *testing.T) {
	b := newBench(t, 9, 2, pool.Advise([]int{2, 1}))
	b.pages(1, 2)
	b.d.Fail(1, true, 1)
	b.r.told = nil
	b.newPage(0, api.ErrDisk)
	b.told("miss 3", "victim 3", "remove 0", "access 0 1", "set 0 true")
	b.scans(1)
	b.frames(0, 1, -1)
	b.pages(3)
	b.frames(0, -1, 1)
	b.scans(1)
	b.pages(4)
	b.frames(-1, -1, 1, 0)
	b.scans(2)
	b.onDisk(10, 20)
}

// P9.1: a disk that stopped leaves the pool as it was, but for what couldn't be read.
func TestStopped(t *testing.T) {
	b := newBench(t, 9, 2, makeLRU(t, 2))
	b.pages(1, 2, 3)
	b.d.Stop(0)
	b.flushAll(api.ErrDisk)
	b.newPage(0, api.ErrDisk)
	b.fetch(1, api.ErrDisk)
	b.frames(-1, 1, 0)
	b.fetch(2, api.OK)
	b.read(2, 20, api.OK)
	b.remove(3, api.OK) // no access of the disk
	b.fetch(1, api.ErrDisk)
	b.frames(-1, 1, -1)
	b.newPage(3, api.OK)
	b.counts(0, 1)
	b.scans(0)
}

// P9.1 and P1 of this layer: a nil Pool, and one that New didn't make.
func TestNilPool(t *testing.T) {
	b := bench{t: t}
	b.newPage(0, api.ErrArg)
	b.flushAll(api.ErrArg)
	for _, id := range []uint32{0, 1, math.MaxUint32} {
		b.fetch(id, api.ErrArg)
		b.unpin(id, api.ErrArg)
		b.read(id, 0, api.ErrArg)
		b.write(id, 1, api.ErrArg)
		b.flush(id, api.ErrArg)
		b.remove(id, api.ErrArg)
		if b.p.Has(id) || b.p.Pins(id) != 0 || b.p.Frame(id) != -1 || b.p.Scans() != 0 {
			t.Errorf("of page %d a nil Pool has something", id)
		}
	}
	b.p = &pool.Pool{}
	b.newPage(0, api.ErrNoFrame)
	b.fetch(1, api.ErrUnknown)
	b.remove(1, api.ErrUnknown)
	b.flushAll(api.OK)
	b.frames(-1)
	b.scans(0)
}

// P1 of this layer: a disk that New didn't make has no room, and no pages.
func TestNoDisk(t *testing.T) {
	b := benchOn(t, &disk.Disk{}, 2, makeLRU(t, 2))
	b.newPage(0, api.ErrFull)
	b.fetch(1, api.ErrUnknown)
	b.flushAll(api.OK)
}

// P1 of this layer: two pools of one disk spoil what each other knows; nothing is promised of that but an end.
func TestOneDiskTwoPools(t *testing.T) {
	d := makeDisk(t, 3)
	n := numbers(7)
	both := [2]*pool.Pool{}
	for i := range both {
		both[i], _ = pool.New(d, 2, makeLRU(t, 2))
	}
	for range 20000 {
		p, id := both[n.below(2)], uint32(n.below(4))
		switch n.below(8) {
		case 0, 1:
			p.NewPage()
		case 2:
			p.Fetch(id)
		case 3, 4:
			p.Unpin(id)
		case 5:
			p.Write(id, 1)
		case 6:
			p.Delete(id)
		case 7:
			p.FlushAll()
		}
	}
}

// P9.1, Advise: its list, and nothing else.
func TestAdvise(t *testing.T) {
	list := []int{4, 0, -1, 4, math.MaxInt, math.MinInt, 2}
	more := append(make([]int, 0, 20), list...)
	r, other := pool.Advise(more), pool.Advise(more)
	for i := range more {
		more[i] = 77 // what is handed in isn't kept
	}
	for i, want := range list {
		r.Miss(1)
		r.Access(2, 1)
		r.Set(2, i%2 == 0)
		r.Remove(2)
		if r.Size() != 0 || len(r.Ghosts()) != 0 {
			t.Errorf("Size %d, Ghosts %v; want none", r.Size(), r.Ghosts())
		}
		wantVictim(t, r, max(want, 0), want >= 0)
	}
	for range 3 {
		wantVictim(t, r, 0, false)
		wantVictim(t, pool.Advise(nil), 0, false)
		wantVictim(t, pool.Advise([]int{}), 0, false)
	}
	wantVictim(t, other, 4, true)
}

// P9.1, Advise: its list isn't changed.
func TestAdviseChangesNothing(t *testing.T) {
	list := []int{3, 1, -2, 9}
	b := newBench(t, 9, 1, pool.Advise(list[:3]))
	b.pages(1, 2, 3, 4, 5, 6)
	if !slices.Equal(list, []int{3, 1, -2, 9}) {
		t.Errorf("the list is %v", list)
	}
}

func wantVictim(t *testing.T, r lru.Replacer, frame int, ok bool) {
	t.Helper()
	if f, is := r.Victim(9); f != frame || is != ok {
		t.Errorf("Victim: %d, %v; want %d, %v", f, is, frame, ok)
	}
}

// P9.1: as many frames as there may be.
func TestAllFrames(t *testing.T) {
	b := filled(t, api.MaxFrames)
	b.newPage(0, api.ErrNoFrame)
	b.unpin(api.MaxFrames, api.OK)
	b.newPage(0, api.ErrFull)
	b.remove(api.MaxFrames, api.OK)
	b.newPage(api.MaxFrames, api.OK)
	if f := b.p.Frame(api.MaxFrames); f != api.MaxFrames-1 {
		t.Errorf("the last frame: %d", f)
	}
	b.flushAll(api.OK)
	b.counts(0, 0)
}

// P9.1: where all are pinned but one that is far from the first, a scan finds that one each time.
func TestManyScans(t *testing.T) {
	const frames = api.MaxFrames - 1
	b := filled(t, frames)
	b.unpin(frames, api.OK)
	b.pages(frames + 1)
	for range 10000 {
		for _, id := range []uint32{frames, frames + 1} {
			b.fetch(id, api.OK)
			b.unpin(id, api.OK)
		}
	}
	if f := b.p.Frame(frames + 1); f != frames-1 {
		t.Errorf("the last frame: %d", f)
	}
	b.scans(20001)
	b.counts(20000, 1)
}

// filled has pinned pages in all its frames, and room for all that there may be.
func filled(t *testing.T, frames int) bench {
	t.Helper()
	b := newBench(t, api.MaxPages, frames, pool.Advise(nil))
	for i := range frames {
		if id, e := b.p.NewPage(); int(id) != i+1 || e != api.OK {
			t.Fatal(i, id, e)
		}
	}
	return b
}
