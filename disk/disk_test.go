package disk_test

import (
	"math"
	"slices"
	"testing"

	"hatcheck/api"
	"hatcheck/disk"
)

func make1(t *testing.T, room int) *disk.Disk {
	t.Helper()
	d, e := disk.New(room)
	if d == nil || e != api.OK {
		t.Fatalf("New(%d): %v, %v", room, d, e)
	}
	return d
}

// filled has pages 1 to n, of which page i holds 10 times i, by n Writes.
func filled(t *testing.T, room, n int) *disk.Disk {
	t.Helper()
	d := make1(t, room)
	for i := 1; i <= n; i++ {
		wantAlloc(t, d, uint32(i), api.OK)
		wantWrite(t, d, uint32(i), uint64(10*i), api.OK)
	}
	return d
}

func wantAlloc(t *testing.T, d *disk.Disk, id uint32, e api.Errno) {
	t.Helper()
	if i, err := d.Alloc(); i != id || err != e {
		t.Errorf("Alloc: %d, %v; want %d, %v", i, err, id, e)
	}
}

func wantFree(t *testing.T, d *disk.Disk, id uint32, e api.Errno) {
	t.Helper()
	if err := d.Free(id); err != e {
		t.Errorf("Free(%d): %v; want %v", id, err, e)
	}
}

func wantRead(t *testing.T, d *disk.Disk, id uint32, v uint64, e api.Errno) {
	t.Helper()
	if got, err := d.Read(id); got != v || err != e {
		t.Errorf("Read(%d): %d, %v; want %d, %v", id, got, err, v, e)
	}
}

func wantWrite(t *testing.T, d *disk.Disk, id uint32, v uint64, e api.Errno) {
	t.Helper()
	if err := d.Write(id, v); err != e {
		t.Errorf("Write(%d, %d): %v; want %v", id, v, err, e)
	}
}

func wantCounts(t *testing.T, d *disk.Disk, reads, writes int) {
	t.Helper()
	if d.Reads() != reads || d.Writes() != writes {
		t.Errorf("Reads, Writes: %d, %d; want %d, %d", d.Reads(), d.Writes(), reads, writes)
	}
}

func wantPages(t *testing.T, d *disk.Disk, ids ...uint32) {
	t.Helper()
	if l := d.Pages(); !slices.Equal(l, ids) {
		t.Errorf("Pages: %v; want %v", l, ids)
	}
}

// P1.1, New.
func TestNew(t *testing.T) {
	for _, room := range []int{0, -1, api.MaxPages + 1, math.MaxInt, math.MinInt} {
		if d, e := disk.New(room); d != nil || e != api.ErrArg {
			t.Errorf("New(%d): %v, %v; want nil, ErrArg", room, d, e)
		}
	}
	for _, room := range []int{1, 2, api.MaxPages} {
		d := make1(t, room)
		wantPages(t, d)
		wantCounts(t, d, 0, 0)
		wantRead(t, d, 1, 0, api.ErrUnknown)
	}
}

// P1.1, Alloc and Free.
func TestAllocLeastId(t *testing.T) {
	d := make1(t, 4)
	wantAlloc(t, d, 1, api.OK)
	wantAlloc(t, d, 2, api.OK)
	wantFree(t, d, 1, api.OK)
	wantAlloc(t, d, 1, api.OK)
	wantAlloc(t, d, 3, api.OK)
	wantAlloc(t, d, 4, api.OK)
	wantAlloc(t, d, 0, api.ErrFull)
	wantPages(t, d, 1, 2, 3, 4)
	for _, id := range []uint32{3, 1, 4} {
		wantFree(t, d, id, api.OK)
	}
	wantPages(t, d, 2)
	for _, id := range []uint32{1, 3, 4} {
		wantAlloc(t, d, id, api.OK)
	}
	wantAlloc(t, d, 0, api.ErrFull)
}

func TestAllocHoldsZero(t *testing.T) {
	d := make1(t, 1)
	wantAlloc(t, d, 1, api.OK)
	wantRead(t, d, 1, 0, api.OK)
	wantWrite(t, d, 1, 7, api.OK)
	wantFree(t, d, 1, api.OK)
	wantRead(t, d, 1, 0, api.ErrUnknown)
	wantAlloc(t, d, 1, api.OK)
	wantRead(t, d, 1, 0, api.OK)
}

func TestFreeUnknown(t *testing.T) {
	d := filled(t, 5, 3)
	wantFree(t, d, 2, api.OK)
	for _, id := range []uint32{0, 2, 4, 5, 6, math.MaxUint32} {
		wantFree(t, d, id, api.ErrUnknown)
		wantRead(t, d, id, 0, api.ErrUnknown)
		wantWrite(t, d, id, 1, api.ErrUnknown)
	}
	wantPages(t, d, 1, 3)
	wantCounts(t, d, 0, 3)
	wantAlloc(t, d, 2, api.OK)
	wantAlloc(t, d, 4, api.OK)
	wantAlloc(t, d, 5, api.OK)
	wantAlloc(t, d, 0, api.ErrFull)
}

func TestAllRoom(t *testing.T) {
	d := make1(t, api.MaxPages)
	for i := 1; i <= api.MaxPages; i++ {
		wantAlloc(t, d, uint32(i), api.OK)
	}
	wantAlloc(t, d, 0, api.ErrFull)
	// 7 and MaxPages have no divisor in common, so that this comes by each id, out of order.
	for i := range api.MaxPages {
		wantFree(t, d, uint32(i*7%api.MaxPages)+1, api.OK)
	}
	wantPages(t, d)
	for i := 1; i <= api.MaxPages; i++ {
		wantAlloc(t, d, uint32(i), api.OK)
	}
	wantAlloc(t, d, 0, api.ErrFull)
}

// P1.1, Read, Write, Reads and Writes.
func TestReadWrite(t *testing.T) {
	d := filled(t, 3, 2)
	wantRead(t, d, 1, 10, api.OK)
	wantRead(t, d, 2, 20, api.OK)
	wantWrite(t, d, 2, math.MaxUint64, api.OK)
	wantRead(t, d, 2, math.MaxUint64, api.OK)
	wantRead(t, d, 1, 10, api.OK)
	wantRead(t, d, 3, 0, api.ErrUnknown)
	wantWrite(t, d, 3, 1, api.ErrUnknown)
	wantCounts(t, d, 4, 3)
}

// P1.1, Fail.
func TestFail(t *testing.T) {
	d := filled(t, 3, 2)
	d.Fail(1, false, 2)
	d.Fail(1, true, 1)
	wantRead(t, d, 2, 20, api.OK)
	wantWrite(t, d, 2, 21, api.OK)
	wantRead(t, d, 1, 0, api.ErrDisk)
	wantWrite(t, d, 1, 11, api.ErrDisk)
	wantRead(t, d, 1, 0, api.ErrDisk)
	wantRead(t, d, 1, 10, api.OK)
	wantWrite(t, d, 1, 12, api.OK)
	wantRead(t, d, 1, 12, api.OK)
	wantCounts(t, d, 3, 4)
}

func TestFailCountsInstead(t *testing.T) {
	d := filled(t, 1, 1)
	d.Fail(1, false, 5)
	d.Fail(1, false, 1)
	wantRead(t, d, 1, 0, api.ErrDisk)
	wantRead(t, d, 1, 10, api.OK)
	for _, times := range []int{0, -1, math.MinInt} {
		d.Fail(1, false, 3)
		d.Fail(1, true, 1)
		d.Fail(1, false, times)
		wantRead(t, d, 1, 10, api.OK)
		wantWrite(t, d, 1, 11, api.ErrDisk)
	}
	d.Fail(1, true, math.MaxInt)
	wantWrite(t, d, 1, 11, api.ErrDisk)
	wantWrite(t, d, 1, 11, api.ErrDisk)
}

func TestFailOfNoPage(t *testing.T) {
	d := make1(t, 2)
	d.Fail(1, false, 2)
	d.Fail(0, false, 1)
	d.Fail(3, true, 1)
	d.Fail(math.MaxUint32, true, math.MaxInt)
	wantRead(t, d, 1, 0, api.ErrUnknown)
	wantAlloc(t, d, 1, api.OK)
	wantRead(t, d, 1, 0, api.ErrDisk)
	wantFree(t, d, 1, api.OK)
	wantRead(t, d, 1, 0, api.ErrUnknown)
	wantAlloc(t, d, 1, api.OK)
	wantRead(t, d, 1, 0, api.ErrDisk)
	wantRead(t, d, 1, 0, api.OK)
	wantAlloc(t, d, 2, api.OK)
	wantRead(t, d, 2, 0, api.OK)
	wantWrite(t, d, 2, 5, api.OK)
}

// P1.1, Stop.
func TestStop(t *testing.T) {
	d := filled(t, 3, 2)
	d.Stop(3)
	d.Fail(1, false, 1)
	wantRead(t, d, 1, 0, api.ErrDisk) // it isn't OK, so it doesn't count
	wantRead(t, d, 3, 0, api.ErrUnknown)
	wantRead(t, d, 1, 10, api.OK)
	wantWrite(t, d, 2, 21, api.OK)
	wantRead(t, d, 2, 21, api.OK)
	for range 3 {
		wantRead(t, d, 2, 0, api.ErrDisk)
		wantWrite(t, d, 1, 11, api.ErrDisk)
	}
	wantRead(t, d, 3, 0, api.ErrUnknown)
	wantWrite(t, d, 0, 1, api.ErrUnknown)
	wantCounts(t, d, 2, 3)
	wantAlloc(t, d, 3, api.OK)
	wantRead(t, d, 3, 0, api.ErrDisk)
	wantFree(t, d, 1, api.OK)
	wantPages(t, d, 2, 3)
}

func TestStopAheadOfFail(t *testing.T) {
	d := filled(t, 1, 1)
	d.Fail(1, false, 1)
	d.Fail(1, true, 1)
	d.Stop(0)
	wantRead(t, d, 1, 0, api.ErrDisk)
	wantWrite(t, d, 1, 11, api.ErrDisk)
	d.Stop(1)
	wantRead(t, d, 1, 0, api.ErrDisk) // the stop took none of what is to fail
	wantWrite(t, d, 1, 11, api.ErrDisk)
	wantRead(t, d, 1, 10, api.OK)
	wantRead(t, d, 1, 0, api.ErrDisk)
}

func TestStopCountsInstead(t *testing.T) {
	d := filled(t, 1, 1)
	for _, after := range []int{0, -1, math.MinInt} {
		d.Stop(2)
		wantRead(t, d, 1, 10, api.OK)
		d.Stop(after)
		wantRead(t, d, 1, 0, api.ErrDisk)
	}
	d.Stop(1)
	d.Stop(3)
	for range 3 {
		wantWrite(t, d, 1, 10, api.OK)
	}
	wantWrite(t, d, 1, 10, api.ErrDisk)
	d.Stop(math.MaxInt)
	for range 10 {
		wantRead(t, d, 1, 10, api.OK)
	}
}

// P1.1, Copy.
func TestCopy(t *testing.T) {
	d := filled(t, 4, 3)
	wantFree(t, d, 1, api.OK)
	d.Fail(2, false, 2)
	d.Fail(3, true, 2)
	d.Fail(1, false, 2)
	d.Stop(0)
	c := d.Copy()
	wantCounts(t, c, 0, 0)
	wantPages(t, c, 2, 3)
	wantRead(t, c, 2, 20, api.OK)
	wantRead(t, c, 3, 30, api.OK)
	wantWrite(t, c, 3, 31, api.OK)
	wantAlloc(t, c, 1, api.OK)
	wantRead(t, c, 1, 0, api.OK)
	wantAlloc(t, c, 4, api.OK)
	wantAlloc(t, c, 0, api.ErrFull)
	wantCounts(t, c, 3, 1)
	wantCounts(t, d, 0, 3)
}

// P1.2.
func TestCopyIsApart(t *testing.T) {
	d := filled(t, 5, 4)
	wantFree(t, d, 2, api.OK)
	wantFree(t, d, 3, api.OK)
	c := d.Copy()
	wantWrite(t, d, 1, 11, api.OK)
	wantAlloc(t, d, 2, api.OK)
	wantWrite(t, c, 4, 41, api.OK)
	c.Fail(1, false, 1)
	d.Fail(4, true, 1)
	wantRead(t, d, 1, 11, api.OK)
	wantRead(t, d, 4, 40, api.OK)
	wantWrite(t, c, 4, 42, api.OK)
	c.Stop(0)
	wantRead(t, d, 4, 40, api.OK)
	c.Stop(9)
	wantRead(t, c, 1, 0, api.ErrDisk)
	wantRead(t, c, 1, 10, api.OK)
	wantFree(t, c, 4, api.OK)
	wantFree(t, c, 1, api.OK)
	wantPages(t, c)
	wantPages(t, d, 1, 2, 4)
	for _, id := range []uint32{1, 2, 3, 4, 5} {
		wantAlloc(t, c, id, api.OK)
	}
	wantAlloc(t, d, 3, api.OK)
	wantAlloc(t, d, 5, api.OK)
	wantAlloc(t, d, 0, api.ErrFull)
}

func TestPagesIsNew(t *testing.T) {
	d := filled(t, 4, 3)
	l := d.Pages()
	l[0], l[1], l[2] = 9, 9, 9
	_ = append(l, 9)
	wantPages(t, d, 1, 2, 3)
	l = d.Pages()
	wantFree(t, d, 2, api.OK)
	if !slices.Equal(l, []uint32{1, 2, 3}) {
		t.Errorf("an answer changed: %v", l)
	}
}

// P1.1, and P1 of this layer: a nil Disk, and one that New didn't make.
func TestNilDisk(t *testing.T) {
	for _, d := range []*disk.Disk{nil, {}} {
		wantAlloc(t, d, 0, api.ErrFull)
		for _, id := range []uint32{0, 1, math.MaxUint32} {
			d.Fail(id, true, 1)
			d.Fail(id, false, -1)
			wantFree(t, d, id, api.ErrUnknown)
			wantRead(t, d, id, 0, api.ErrUnknown)
			wantWrite(t, d, id, 1, api.ErrUnknown)
		}
		d.Stop(1)
		wantCounts(t, d, 0, 0)
		wantPages(t, d)
	}
	var d *disk.Disk
	if d.Copy() != nil {
		t.Error("the Copy of a nil Disk isn't nil")
	}
	wantPages(t, new(disk.Disk).Copy())
}
