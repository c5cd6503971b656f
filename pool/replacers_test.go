package pool_test

import (
	"strconv"
	"testing"

	"hatcheck/api"
	"hatcheck/arc"
	"hatcheck/lru"
	"hatcheck/lruk"
	"hatcheck/pool"
	"hatcheck/pro"
	"hatcheck/twoq"
)

func text(n int) string { return strconv.Itoa(n) }

// recorder keeps what another Replacer is told, and hands it on.
type recorder struct {
	r    lru.Replacer
	told []string
}

func (r *recorder) note(words ...string) {
	s := words[0]
	for _, w := range words[1:] {
		s += " " + w
	}
	r.told = append(r.told, s)
}

func (r *recorder) Miss(page uint32) {
	r.note("miss", text(int(page)))
	r.r.Miss(page)
}

func (r *recorder) Access(frame int, page uint32) {
	r.note("access", text(frame), text(int(page)))
	r.r.Access(frame, page)
}

func (r *recorder) Set(frame int, evictable bool) {
	r.note("set", text(frame), strconv.FormatBool(evictable))
	r.r.Set(frame, evictable)
}

func (r *recorder) Victim(page uint32) (int, bool) {
	r.note("victim", text(int(page)))
	return r.r.Victim(page)
}

func (r *recorder) Remove(frame int) {
	r.note("remove", text(frame))
	r.r.Remove(frame)
}

func (r *recorder) Size() int { return r.r.Size() }

func (r *recorder) Ghosts() []uint32 { return r.r.Ghosts() }

// liar says a frame, and that it says none.
type liar struct {
	lru.Replacer
	frame int
}

func (l liar) Miss(page uint32) {}

func (l liar) Access(frame int, page uint32) {}

func (l liar) Set(frame int, evictable bool) {}

func (l liar) Victim(page uint32) (int, bool) { return l.frame, false }

func (l liar) Remove(frame int) {}

// broken is a Replacer each of whose methods panics, now and then, or always.
type broken struct {
	r lru.Replacer // nil: always
	n *numbers
}

func (b broken) sometimes() {
	if b.n != nil && b.n.below(3) == 0 {
		panic("broken")
	}
}

func (b broken) Miss(page uint32) {
	b.sometimes()
	b.r.Miss(page)
}

func (b broken) Access(frame int, page uint32) {
	b.sometimes()
	b.r.Access(frame, page)
}

func (b broken) Set(frame int, evictable bool) {
	b.sometimes()
	b.r.Set(frame, evictable)
}

func (b broken) Victim(page uint32) (int, bool) {
	b.sometimes()
	return b.r.Victim(page)
}

func (b broken) Remove(frame int) {
	b.r.Remove(frame)
	b.sometimes()
}

func (b broken) Size() int { panic("broken") }

func (b broken) Ghosts() []uint32 { panic("broken") }

// named is a Replacer with its name, for what tests say.
type named struct {
	name string
	r    lru.Replacer
}

// policies are layers 4 to 8, of so many frames, and of such numbers as n says.
func policies(t *testing.T, frames int, n *numbers) []named {
	t.Helper()
	l, e1 := lru.New(frames)
	k, e2 := lruk.New(frames, 1+n.below(api.MaxK), n.below(4), n.below(2*frames+1))
	q, e3 := twoq.New(frames, n.below(frames+2), n.below(2*frames+1))
	a, e4 := arc.New(frames)
	c, e5 := pro.New(frames)
	for _, e := range []api.Errno{e1, e2, e3, e4, e5} {
		if e != api.OK {
			t.Fatal(e)
		}
	}
	return []named{{"lru", l}, {"lruk", k}, {"twoq", q}, {"arc", a}, {"pro", c}}
}

// advisers are Replacers whose advice is of any worth, or none: lists, and policies of too few frames, or too many, or of nothing.
func advisers(t *testing.T, frames int, n *numbers) []named {
	t.Helper()
	list := make([]int, 3000)
	for i := range list {
		list[i] = n.below(frames+4) - 2
	}
	var none *lru.LRU
	return []named{
		{"nothing", pool.Advise(nil)},
		{"a list", pool.Advise(list)},
		{"a short list", pool.Advise(list[:20])},
		{"too few", makeLRU(t, 1+n.below(frames))},
		{"too many", makeLRU(t, frames+3)},
		{"nil within", none},
		{"a liar", liar{frame: frames - 1}},
	}
}

// numbers are the same ones at each run.
type numbers uint64

func (n *numbers) below(m int) int {
	*n = *n*6364136223846793005 + 1442695040888963407
	return int(uint64(*n)>>33) % m
}
