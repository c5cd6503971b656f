package disk_test

import (
	"maps"
	"slices"
	"testing"

	"hatcheck/api"
	"hatcheck/disk"
)

// plain is a disk told as plainly as can be, that a Disk is held against.
type plain struct {
	room          int
	held          map[uint32]uint64
	fails         map[[2]uint32]int
	left          int // below 0: it doesn't stop
	reads, writes int
}

func newPlain(room int) *plain {
	return &plain{room: room, held: map[uint32]uint64{}, fails: map[[2]uint32]int{}, left: -1}
}

func (p *plain) alloc() (uint32, api.Errno) {
	if len(p.held) == p.room {
		return 0, api.ErrFull
	}
	for id := uint32(1); ; id++ {
		if _, ok := p.held[id]; !ok {
			p.held[id] = 0
			return id, api.OK
		}
	}
}

func (p *plain) free(id uint32) api.Errno {
	if _, ok := p.held[id]; !ok {
		return api.ErrUnknown
	}
	delete(p.held, id)
	return api.OK
}

func (p *plain) access(id, write uint32) api.Errno {
	if _, ok := p.held[id]; !ok {
		return api.ErrUnknown
	}
	if p.left == 0 {
		return api.ErrDisk
	}
	if p.fails[[2]uint32{id, write}] > 0 {
		p.fails[[2]uint32{id, write}]--
		return api.ErrDisk
	}
	if p.left > 0 {
		p.left--
	}
	return api.OK
}

func (p *plain) read(id uint32) (uint64, api.Errno) {
	e := p.access(id, 0)
	if e != api.OK {
		return 0, e
	}
	p.reads++
	return p.held[id], e
}

func (p *plain) write(id uint32, v uint64) api.Errno {
	e := p.access(id, 1)
	if e == api.OK {
		p.writes++
		p.held[id] = v
	}
	return e
}

func (p *plain) copy() *plain {
	c := newPlain(p.room)
	maps.Copy(c.held, p.held)
	return c
}

// numbers are the same ones at each run.
type numbers uint64

func (n *numbers) below(m int) int {
	*n = *n*6364136223846793005 + 1442695040888963407
	return int(uint64(*n)>>33) % m
}

// step does one call of both, and says whether they answer alike.
func step(n *numbers, d *disk.Disk, p *plain) bool {
	id, v := uint32(n.below(p.room+3)), uint64(n.below(1000))
	switch n.below(9) {
	case 0, 1:
		i, e := d.Alloc()
		j, f := p.alloc()
		return i == j && e == f
	case 2:
		return d.Free(id) == p.free(id)
	case 3, 4:
		i, e := d.Read(id)
		j, f := p.read(id)
		return i == j && e == f
	case 5, 6:
		return d.Write(id, v) == p.write(id, v)
	case 7:
		write, times := n.below(2), n.below(5)-1
		d.Fail(id, write == 1, times)
		p.fails[[2]uint32{id, uint32(write)}] = times
	case 8:
		after := n.below(20) - 2
		d.Stop(after)
		p.left = max(after, 0)
	}
	return true
}

// P1.1, and P1.2 of Copy: rows of calls, of a disk and of Copies of it.
func TestAgainstPlain(t *testing.T) {
	n := numbers(1)
	for room := 1; room <= 12; room++ {
		d, _ := disk.New(room)
		p := newPlain(room)
		for i := range 3000 {
			if !step(&n, d, p) || d.Reads() != p.reads || d.Writes() != p.writes {
				t.Fatalf("room %d, call %d: they answer unlike", room, i)
			}
			if !slices.Equal(d.Pages(), slices.Sorted(maps.Keys(p.held))) {
				t.Fatalf("room %d, call %d: pages %v, want %v", room, i, d.Pages(), p.held)
			}
			if i%50 == 49 {
				c, q := d.Copy(), p.copy()
				for range 30 {
					if !step(&n, c, q) {
						t.Fatalf("room %d, call %d: copies answer unlike", room, i)
					}
				}
				if n.below(4) == 0 {
					d, p = c, q
				}
			}
		}
	}
}
