package twoq_test

import (
	"math"
	"slices"
	"testing"

	"hatcheck/api"
	"hatcheck/lru"
	"hatcheck/twoq"
)

func make1(t *testing.T, frames, in, out int) *twoq.TwoQ {
	t.Helper()
	q, e := twoq.New(frames, in, out)
	if q == nil || e != api.OK {
		t.Fatalf("New(%d, %d, %d): %v, %v", frames, in, out, q, e)
	}
	return q
}

// touch touches pages, the page i+1 in the frame i, which is evictable from its first touch on.
func touch(r lru.Replacer, pages ...uint32) {
	for _, page := range pages {
		r.Miss(page)
		r.Access(int(page-1), page)
		r.Set(int(page-1), true)
	}
}

// parted has main ones in the frames 0, 1, .., main - 1, and new ones in those behind them, which came in that order, all evictable; nothing is remembered. (out is 1 at least: a main one was remembered.)
func parted(t *testing.T, main, frames, in, out int) *twoq.TwoQ {
	t.Helper()
	q := make1(t, frames, in, out)
	for i := range main {
		touch(q, uint32(i+1))
		wantVictim(t, q, i, true)
		touch(q, uint32(i+1))
		q.Set(i, false) // so that it isn't the next one's victim
	}
	for i := range frames {
		touch(q, uint32(i+1))
	}
	wantGhosts(t, q)
	wantSize(t, q, frames)
	return q
}

func wantSize(t *testing.T, r lru.Replacer, size int) {
	t.Helper()
	if n := r.Size(); n != size {
		t.Errorf("Size: %d; want %d", n, size)
	}
}

func wantGhosts(t *testing.T, r lru.Replacer, pages ...uint32) {
	t.Helper()
	if g := r.Ghosts(); !slices.Equal(g, pages) {
		t.Errorf("Ghosts: %v; want %v", g, pages)
	}
}

func wantVictim(t *testing.T, r lru.Replacer, frame int, ok bool) {
	t.Helper()
	r.Miss(99)
	if f, is := r.Victim(99); f != frame || is != ok {
		t.Errorf("Victim: %d, %v; want %d, %v", f, is, frame, ok)
	}
}

// wantVictims asks for all victims, one behind the other, none of whose successors come.
func wantVictims(t *testing.T, r lru.Replacer, frames ...int) {
	t.Helper()
	for i, f := range frames {
		wantSize(t, r, len(frames)-i)
		wantVictim(t, r, f, true)
	}
	wantSize(t, r, 0)
	wantVictim(t, r, 0, false)
}

// P6.1, New: each argument just beyond its bounds, and at them.
func TestNew(t *testing.T) {
	right := [3]int{2, 2, 2}
	least := [3]int{1, 0, 0}
	for i := range right {
		for _, v := range []int{least[i] - 1, 65536, -1, math.MinInt, math.MaxInt} {
			a := right
			a[i] = v
			if q, e := twoq.New(a[0], a[1], a[2]); q != nil || e != api.ErrArg {
				t.Errorf("New of %v: %v, %v; want nil, ErrArg", a, q, e)
			}
		}
		for _, v := range []int{least[i], 65535} {
			a := right
			a[i] = v
			q := make1(t, a[0], a[1], a[2])
			wantVictims(t, q)
			wantGhosts(t, q)
			touch(q, uint32(a[0]))
			wantVictims(t, q, a[0]-1)
		}
	}
	wantVictims(t, make1(t, 65535, 65535, 65535))
}

// P6.1: the chapter's example.
func TestExample(t *testing.T) {
	q := make1(t, 2, 1, 2)
	touch(q, 1, 2)
	q.Miss(3)
	if f, ok := q.Victim(3); f != 0 || !ok {
		t.Errorf("Victim(3): %d, %v; want 0, true", f, ok)
	}
	wantGhosts(t, q, 1)
	touch(q, 1)
	wantGhosts(t, q)
	// It is a main one: 2, the only new one, stays as long as there is no more than one.
	wantVictims(t, q, 0, 1)
	wantGhosts(t, q, 2)
}

// P6.1: it is known by the interface alone.
func TestReplacer(t *testing.T) {
	var r lru.Replacer = make1(t, 1, 0, 0)
	touch(r, 1)
	wantVictims(t, r, 0)
}

// P6.1: a new one goes first just if there are more than in.
func TestMoreThanIn(t *testing.T) {
	for in, want := range [][]int{
		{2, 3, 4, 0, 1}, // there is one at least, till none is left
		{2, 3, 0, 1, 4},
		{2, 0, 1, 3, 4},
		{0, 1, 2, 3, 4},
		{0, 1, 2, 3, 4},
	} {
		q := parted(t, 2, 5, in, 9)
		wantVictims(t, q, want...)
	}
	wantVictims(t, parted(t, 2, 5, 65535, 9), 0, 1, 2, 3, 4)
}

// P6.1: new ones that aren't evictable count, too.
func TestHeldNewOnesCount(t *testing.T) {
	q := parted(t, 1, 4, 2, 9)
	q.Set(1, false)
	q.Set(2, false)
	wantVictims(t, q, 3, 0)
}

// P6.1: the touches of a new one don't matter; a main one that is touched is the youngest one.
func TestTouched(t *testing.T) {
	q := parted(t, 0, 3, 0, 9)
	touch(q, 1, 1, 2, 1)
	wantVictims(t, q, 0, 1, 2)
	q = parted(t, 3, 3, 0, 9)
	touch(q, 2, 1, 1, 2, 2)
	wantVictims(t, q, 2, 0, 1)
	q = parted(t, 3, 3, 0, 9)
	touch(q, 3)
	wantVictims(t, q, 0, 1, 2)
}

// P6.1: if no frame of the row that is to give one is evictable, the other row's eldest evictable one goes.
func TestOtherRow(t *testing.T) {
	q := parted(t, 3, 6, 1, 9) // there are more than 1
	for _, frame := range []int{0, 3, 4, 5} {
		q.Set(frame, false)
	}
	wantVictims(t, q, 1, 2)
	wantGhosts(t, q)
	q = parted(t, 3, 6, 3, 9) // there are no more than 3
	for _, frame := range []int{0, 1, 2, 3} {
		q.Set(frame, false)
	}
	wantVictims(t, q, 4, 5)
	wantGhosts(t, q, 5, 6)
}

// P6.1 and P6.2: what isn't evictable never goes, however old it is.
func TestHeld(t *testing.T) {
	q := parted(t, 2, 4, 1, 9)
	for i := range 4 {
		q.Set(i, i%2 == 1)
	}
	wantVictims(t, q, 3, 1)
	q.Set(0, true)
	wantVictims(t, q, 0)
	q.Set(2, true)
	wantVictims(t, q, 2)
}

// P6.1: a new one's page is remembered, a main one's isn't.
func TestRemembered(t *testing.T) {
	q := parted(t, 2, 4, 1, 9)
	wantVictims(t, q, 2, 0, 1, 3)
	wantGhosts(t, q, 3, 4)
}

// P6.1: a page that comes, and is remembered, isn't any more, and is the youngest main one; any other one is the youngest new one.
func TestComesAgain(t *testing.T) {
	q := parted(t, 1, 4, 0, 9)
	wantVictim(t, q, 1, true)
	wantVictim(t, q, 2, true)
	wantGhosts(t, q, 2, 3)
	q.Miss(3)
	wantGhosts(t, q, 2, 3) // it will come, but hasn't yet
	q.Access(1, 3)         // the frame it had, or another one
	q.Set(1, true)
	wantGhosts(t, q, 2)
	q.Access(2, 5)
	q.Set(2, true)
	wantGhosts(t, q, 2)
	wantVictims(t, q, 3, 2, 0, 1)
	wantGhosts(t, q, 2, 4, 5)
	q.Access(0, 3) // it was a main one, as it went
	q.Access(1, 2)
	q.Set(0, true)
	q.Set(1, true)
	wantGhosts(t, q, 4, 5)
	wantVictims(t, q, 0, 1)
}

// P6.1 and P6.3: if there are more than out, the eldest remembered one, by when it went, is forgotten.
func TestOut(t *testing.T) {
	for out, want := range [][]uint32{{}, {4}, {2, 4}, {3, 2, 4}, {1, 3, 2, 4}, {1, 3, 2, 4}} {
		q := make1(t, 4, 0, out)
		touch(q, 1, 3, 2, 4)
		wantVictims(t, q, 0, 2, 1, 3)
		wantGhosts(t, q, want...)
	}
	q := make1(t, 3, 0, 2)
	touch(q, 1, 2)
	wantVictims(t, q, 0, 1)
	touch(q, 1)
	wantVictims(t, q, 0)
	wantGhosts(t, q, 2) // 1 was a main one
	touch(q, 3, 1)
	wantVictims(t, q, 2, 0)
	wantGhosts(t, q, 3, 1) // and a new one again, the youngest that went
	touch(q, 2)
	wantVictims(t, q, 1)
	wantGhosts(t, q, 1, 2)
}

// P6.1: a page that was forgotten comes as a new one.
func TestForgotten(t *testing.T) {
	for out, want := range [][]int{{1, 2}, {1, 2}, {2, 1}} {
		q := make1(t, 3, 0, out)
		touch(q, 1, 2)
		wantVictims(t, q, 0, 1)
		q.Access(1, 1)
		q.Access(2, 3)
		q.Set(1, true)
		q.Set(2, true)
		wantVictims(t, q, want...)
	}
}

// P6.1: the page that comes is forgotten by its own Victim, if it is the eldest one of as many as are remembered.
func TestComingIsForgotten(t *testing.T) {
	q := make1(t, 1, 0, 1)
	touch(q, 1)
	wantVictim(t, q, 0, true)
	q.Access(0, 2)
	q.Set(0, true)
	wantGhosts(t, q, 1)
	q.Miss(1)
	if f, ok := q.Victim(1); f != 0 || !ok {
		t.Fatal(f, ok)
	}
	wantGhosts(t, q, 2)
	touch(q, 1)
	wantGhosts(t, q, 2)
	wantVictims(t, q, 0)
	wantGhosts(t, q, 1) // it was a new one
}

// P6.1: a page that came isn't evictable at first; an Access of one that is there leaves that as it is; a Set that says the same again counts once.
func TestEvictable(t *testing.T) {
	q := make1(t, 2, 1, 2)
	for range 2 { // at first they are new ones, then main ones
		q.Access(0, 1)
		q.Access(1, 2)
		wantVictims(t, q)
		q.Access(0, 1)
		wantSize(t, q, 0)
		for range 2 {
			q.Set(0, true)
			wantSize(t, q, 1)
		}
		q.Access(0, 1)
		wantSize(t, q, 1)
		q.Set(1, true)
		for range 2 {
			q.Set(0, false)
			wantSize(t, q, 1)
		}
		wantVictims(t, q, 1)
		q.Set(0, true)
		wantVictims(t, q, 0)
	}
	wantGhosts(t, q)
}

// P6.2: where Victim is false nothing changes.
func TestFalseChangesNothing(t *testing.T) {
	q := parted(t, 2, 4, 1, 9)
	for i := range 4 {
		q.Set(i, false)
	}
	for range 3 {
		wantVictim(t, q, 0, false)
	}
	wantGhosts(t, q)
	for i := range 4 {
		q.Set(i, true)
	}
	wantVictims(t, q, 2, 0, 1, 3)
}

// P6.1: a page that was removed is in no row, isn't remembered, and the next one in that frame isn't evictable at first.
func TestRemove(t *testing.T) {
	q := parted(t, 2, 5, 2, 9)
	q.Remove(0)
	q.Remove(3)
	wantSize(t, q, 3)
	wantGhosts(t, q)
	q.Access(0, 1) // it comes as a new one, the youngest, of three
	wantSize(t, q, 3)
	q.Set(0, true)
	wantVictims(t, q, 2, 1, 4, 0)
	wantGhosts(t, q, 3, 5, 1)
	q.Access(3, 7)
	wantVictims(t, q)
	q.Remove(3) // that isn't evictable
	wantVictims(t, q)
	wantGhosts(t, q, 3, 5, 1)
	q.Access(3, 8)
	q.Set(3, true)
	wantVictims(t, q, 3)
}

// P6.1: behind a Miss, or a Victim, the page needn't come.
func TestComesNot(t *testing.T) {
	q := make1(t, 2, 0, 2)
	touch(q, 1, 2)
	q.Miss(3)
	wantVictim(t, q, 0, true)
	q.Miss(1)
	wantGhosts(t, q, 1)
	wantVictims(t, q, 1)
	wantGhosts(t, q, 1, 2)
}

// P6.1: one that went may be accessed at once, in the frame that it had: it comes, remembered or not.
func TestStaysAfterAll(t *testing.T) {
	for out := range 2 {
		q := make1(t, 2, 0, out)
		touch(q, 1, 2)
		wantVictim(t, q, 0, true)
		wantGhosts(t, q, []uint32{1}[:out]...)
		q.Access(0, 1)
		wantGhosts(t, q)
		wantSize(t, q, 1)
		q.Set(0, true)
		wantVictims(t, q, 1, 0)
		wantGhosts(t, q, []uint32{2}[:out]...) // where 1 was remembered, it is a main one
	}
	q := parted(t, 2, 2, 0, 9)
	wantVictim(t, q, 0, true)
	q.Access(0, 1) // a main one isn't remembered: it comes as a new one
	q.Set(0, true)
	wantVictims(t, q, 0, 1)
	wantGhosts(t, q, 1)
}

// P6.4: what is answered is new, and one TwoQ has nothing of another one.
func TestAnswersAreNew(t *testing.T) {
	q, r := make1(t, 2, 0, 2), make1(t, 2, 0, 2)
	touch(q, 1, 2)
	touch(r, 2, 1)
	wantVictims(t, q, 0, 1)
	g := q.Ghosts()
	clear(g)
	_ = append(g[:1], 9)
	wantGhosts(t, q, 1, 2)
	g = q.Ghosts()
	touch(q, 1)
	if !slices.Equal(g, []uint32{1, 2}) {
		t.Errorf("an answer changed: %v", g)
	}
	wantGhosts(t, r)
	wantVictims(t, r, 1, 0)
}

// P6.1: a page's id may be any of its type.
func TestGreatIds(t *testing.T) {
	const most = math.MaxUint32
	q := make1(t, 2, 0, 2)
	q.Access(0, most)
	q.Access(1, most-1)
	q.Set(0, true)
	q.Set(1, true)
	wantVictims(t, q, 0, 1)
	wantGhosts(t, q, most, most-1)
	q.Access(1, most)
	wantGhosts(t, q, most-1)
}

// P1 of this layer: calls of which nothing else is promised end, of a nil TwoQ and of one that New didn't make, too.
func TestOtherCallsEnd(t *testing.T) {
	odd := []int{0, 1, 2, 3, -1, 4, api.MaxFrames, math.MinInt, math.MaxInt}
	pages := []uint32{0, 1, 2, math.MaxUint32}
	for _, q := range []*twoq.TwoQ{nil, {}, parted(t, 1, 3, 1, 1), make1(t, 1, 0, 0), make1(t, 3, 0, 2), make1(t, 3, 5, 5)} {
		for _, frame := range odd {
			for _, page := range pages {
				q.Remove(frame)
				q.Set(frame, true)
				q.Victim(page)
				for i := range 3 {
					q.Access(frame, page)
					q.Access(i, page)
					q.Set(i, i != frame)
					q.Access(frame, page+1)
				}
				q.Set(frame, true)
				q.Victim(page)
				q.Victim(page)
				q.Miss(page)
				q.Miss(page)
				q.Access(frame, page)
				q.Remove(frame)
				q.Remove(frame)
				q.Set(frame, false)
				q.Size()
				q.Ghosts()
			}
		}
	}
	for _, q := range []*twoq.TwoQ{nil, {}} {
		q.Access(0, 1)
		q.Set(0, true)
		wantVictims(t, q)
		wantGhosts(t, q)
	}
}

// P6.1: as many frames, and as many remembered, as there may be.
func TestAllFrames(t *testing.T) {
	for _, in := range []int{0, 1000, 65535} {
		q := make1(t, api.MaxFrames, in, 65535)
		for i := range api.MaxFrames {
			touch(q, uint32(i+1))
		}
		for i := range 2 * api.MaxFrames {
			page := uint32(api.MaxFrames + i + 1)
			f, ok := q.Victim(page)
			if f != i%api.MaxFrames || !ok {
				t.Fatal(i, f, ok)
			}
			q.Access(f, page)
			q.Set(f, true)
		}
		g := q.Ghosts()
		if len(g) != 65535 || g[0] != api.MaxFrames+1 || g[65534] != 2*api.MaxFrames {
			t.Error(len(g))
		}
	}
}
