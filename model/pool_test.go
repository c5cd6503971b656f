package model_test

import (
	"testing"

	"hatcheck/api"
	"hatcheck/arc"
	"hatcheck/disk"
	"hatcheck/lru"
	"hatcheck/lruk"
	"hatcheck/model"
	"hatcheck/pool"
	"hatcheck/pro"
	"hatcheck/twoq"
)

// P10.2: a Pool, whatever its Replacer, answers as the Model does, and behind FlushAll its disk holds what that says.
func TestPoolIsLikeModel(t *testing.T) {
	n := numbers(1)
	for frames := 1; frames <= 7; frames++ {
		for room := 1; room <= 17; room += 4 {
			for i := range 7 {
				poolIsLikeModel(t, &n, frames, room, i)
			}
		}
	}
}

func poolIsLikeModel(t *testing.T, n *numbers, frames, room, i int) {
	t.Helper()
	m := begin(t, frames, room)
	d, _ := disk.New(room)
	p, e := pool.New(d, frames, replacer(t, n, frames, i))
	if e != api.OK {
		t.Fatal(e)
	}
	for step := range 1500 {
		o := n.op(room)
		a, b := model.Call(p, o), m.Do(o)
		if a != b {
			t.Fatalf("replacer %d, frames %d, room %d, step %d, %v: %v; the Model: %v", i, frames, room, step, o, a, b)
		}
		if o.Kind == model.FlushAll && !likeDisk(m, d, room) {
			t.Fatalf("replacer %d, frames %d, room %d, step %d: the disk holds something else than the Model", i, frames, room, step)
		}
	}
}

// likeDisk says whether a disk's pages are those of a Model.
func likeDisk(m *model.Model, d *disk.Disk, room int) bool {
	c := d.Copy()
	for id := range uint32(room + 2) {
		v, there := m.Value(id)
		held, e := c.Read(id)
		if v != held || there != (e == api.OK) {
			return false
		}
	}
	return true
}

// replacer is one of seven: the policies, advice at random, and none at all.
func replacer(t *testing.T, n *numbers, frames, i int) lru.Replacer {
	t.Helper()
	var r lru.Replacer
	e := api.OK
	switch i {
	case 0:
		r, e = lru.New(frames)
	case 1:
		r, e = lruk.New(frames, 1+n.below(api.MaxK), n.below(3), n.below(2*frames))
	case 2:
		r, e = twoq.New(frames, n.below(frames+1), n.below(2*frames))
	case 3:
		r, e = arc.New(frames)
	case 4:
		r, e = pro.New(frames)
	case 5:
		list := make([]int, 800)
		for i := range list {
			list[i] = n.below(frames+3) - 1
		}
		r = pool.Advise(list)
	default:
		r = pool.Advise(nil)
	}
	if e != api.OK {
		t.Fatal(e)
	}
	return r
}

// numbers are the same ones at each run.
type numbers uint64

func (n *numbers) below(m int) int {
	*n = *n*6364136223846793005 + 1442695040888963407
	return int(uint64(*n)>>33) % m
}

// op is of as many kinds as there are, and of others; such as bring pages, and let them go, come more often.
func (n *numbers) op(room int) model.Op {
	often := [...]int{-1, model.New, model.New, model.Fetch, model.Fetch, model.Fetch, model.Unpin, model.Unpin, model.Unpin, model.Unpin, model.Read, model.Write}
	kind := n.below(9 + len(often))
	if kind >= 9 {
		kind = often[kind-9]
	}
	return model.Op{Kind: kind, Id: uint32(n.below(room + 2)), V: uint64(n.below(1000))}
}
