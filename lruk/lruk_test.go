package lruk_test

import (
	"math"
	"slices"
	"testing"

	"hatcheck/api"
	"hatcheck/lru"
	"hatcheck/lruk"
)

func make1(t *testing.T, frames, k, near, kept int) *lruk.LRUK {
	t.Helper()
	l, e := lruk.New(frames, k, near, kept)
	if l == nil || e != api.OK {
		t.Fatalf("New(%d, %d, %d, %d): %v, %v", frames, k, near, kept, l, e)
	}
	return l
}

// touch touches pages, the page i+1 in the frame i, which is evictable from its first touch on.
func touch(r lru.Replacer, pages ...uint32) {
	for _, page := range pages {
		r.Miss(page)
		r.Access(int(page-1), page)
		r.Set(int(page-1), true)
	}
}

func wantSize(t *testing.T, r lru.Replacer, size int) {
	t.Helper()
	if n := r.Size(); n != size {
		t.Errorf("Size: %d; want %d", n, size)
	}
}

func wantGhosts(t *testing.T, r lru.Replacer, pages ...uint32) {
	t.Helper()
	if g := r.Ghosts(); !slices.Equal(g, pages) {
		t.Errorf("Ghosts: %v; want %v", g, pages)
	}
}

func wantVictim(t *testing.T, r lru.Replacer, frame int, ok bool) {
	t.Helper()
	r.Miss(99)
	if f, is := r.Victim(99); f != frame || is != ok {
		t.Errorf("Victim: %d, %v; want %d, %v", f, is, frame, ok)
	}
}

// wantVictims asks for all victims, one behind the other, none of whose successors come.
func wantVictims(t *testing.T, r lru.Replacer, frames ...int) {
	t.Helper()
	for i, f := range frames {
		wantSize(t, r, len(frames)-i)
		wantVictim(t, r, f, true)
	}
	wantSize(t, r, 0)
	wantVictim(t, r, 0, false)
}

// P5.1, New: each argument just beyond its bounds, and at them.
func TestNew(t *testing.T) {
	right := [4]int{2, 2, 2, 2}
	least := [4]int{1, 1, 0, 0}
	most := [4]int{65535, 8, 1000000, 65535}
	for i := range right {
		for _, v := range []int{least[i] - 1, most[i] + 1, -1, math.MinInt, math.MaxInt} {
			a := right
			a[i] = v
			if l, e := lruk.New(a[0], a[1], a[2], a[3]); l != nil || e != api.ErrArg {
				t.Errorf("New of %v: %v, %v; want nil, ErrArg", a, l, e)
			}
		}
		for _, v := range []int{least[i], most[i]} {
			a := right
			a[i] = v
			l := make1(t, a[0], a[1], a[2], a[3])
			wantVictims(t, l)
			wantGhosts(t, l)
			touch(l, uint32(a[0]))
			wantVictims(t, l, a[0]-1)
		}
	}
}

// P5.1: the chapter's example.
func TestExample(t *testing.T) {
	l := make1(t, 2, 2, 0, 0)
	touch(l, 1, 1, 2)
	l.Miss(3)
	if f, ok := l.Victim(3); f != 1 || !ok {
		t.Errorf("Victim(3): %d, %v; want 1, true", f, ok)
	}
}

// P5.1: it is known by the interface alone.
func TestReplacer(t *testing.T) {
	var r lru.Replacer = make1(t, 1, 1, 0, 0)
	touch(r, 1)
	wantVictims(t, r, 0)
}

// P5.1: the same touches, by so many of them: what counts is the k-th from the last one, then, of those that haven't so many, the last one.
func TestKth(t *testing.T) {
	touches := []uint32{2, 3, 3, 1, 1, 3, 1, 2, 2, 1}
	for k, want := range [][]int{
		{2, 1, 0}, // last ones: 10, 9, 6
		{2, 0, 1}, // last but one: 7, 8, 3
		{1, 2, 0}, // 5, 1, 2
		{2, 1, 0}, // 4, none, none
		{2, 1, 0}, // none
	} {
		l := make1(t, 3, k+1, 0, 0)
		touch(l, touches...)
		wantVictims(t, l, want...)
	}
}

// P5.1: MaxK touches are told apart.
func TestMaxK(t *testing.T) {
	l := make1(t, 2, api.MaxK, 0, 0)
	touch(l, 2, 1, 1, 1, 1, 1, 1, 1, 1, 2, 2, 2, 2, 2, 2, 2)
	wantVictims(t, l, 1, 0) // 1's eighth from the last is at 2, that of 2 at 1
	l = make1(t, 2, api.MaxK, 0, 0)
	touch(l, 2, 2, 2, 2, 2, 2, 2, 2, 1, 1, 1, 1, 1, 1, 1)
	wantVictims(t, l, 0, 1) // 1 has seven alone
}

// P5.1: touches no more than near apart count as one, such as are one more apart don't.
func TestNear(t *testing.T) {
	l := make1(t, 3, 2, 2, 0)
	// 1's touches, at 1 and 4, are two; 2's, at 3 and 5, are one.
	touch(l, 1, 3, 2, 1, 2, 3, 3, 3, 3)
	wantVictim(t, l, 1, true)
	wantVictim(t, l, 0, true)
	// 2's touches, each 2 behind the one ahead, are one, however long that goes on.
	l = make1(t, 3, 2, 2, 0)
	touch(l, 1, 3, 3, 1, 2, 3, 2, 3, 2, 3, 2, 3, 3, 3)
	wantVictim(t, l, 1, true)
	wantVictim(t, l, 0, true)
}

// P5.1: the time that near touches took doesn't count: the times ahead of them are later by that.
func TestNearTook(t *testing.T) {
	// Last but one: 1's, at 1 and 3, counts as at 3, as it is touched at 6; 2's is at 2.
	l := make1(t, 3, 2, 2, 0)
	touch(l, 1, 2, 1, 3, 2, 1, 3, 3)
	wantVictim(t, l, 1, true)
	wantVictim(t, l, 0, true)
	// Last but two: 1's, at 1 and 3, counts as at 3, and then, as those at 6 and 8 took 2 more, as at 5; 2's is at 4.
	l = make1(t, 3, 3, 2, 0)
	touch(l, 1, 3, 1, 2, 3, 1, 2, 1, 3, 2, 1, 3, 3)
	wantVictim(t, l, 1, true)
	wantVictim(t, l, 0, true)
}

// P5.1: where there was no time ahead, what near touches took makes none.
func TestNoTimeStaysNone(t *testing.T) {
	// 1, at 1 and 3, at 7 and 9, has no last but two; 2 has one at 2. Were the 2 that 1's first ones took one, 2 would go first by its last one.
	l := make1(t, 3, 3, 2, 0)
	touch(l, 1, 2, 1, 3, 2, 3, 1, 2, 1, 3, 3)
	wantVictim(t, l, 0, true)
	wantVictim(t, l, 1, true)
}

// P5.1: a page last touched no more than near ago, as seen from the time and 1, stays, where another one was touched longer ago.
func TestTooNear(t *testing.T) {
	for more, want := range map[int][]int{
		0: {0, 1}, // 2 was touched 1 ago: 1 goes, though it has two touches
		1: {0, 1}, // 2 ago
		2: {1, 0}, // 3 ago
	} {
		l := make1(t, 3, 2, 2, 0)
		touch(l, 1, 3, 3, 1, 3, 3, 2)
		for range more {
			touch(l, 3)
		}
		l.Set(2, false)
		wantVictims(t, l, want...)
	}
}

// P5.1: 0 as near: the page touched just now may go.
func TestNearNought(t *testing.T) {
	l := make1(t, 2, 2, 0, 0)
	touch(l, 1, 1, 2)
	wantVictim(t, l, 1, true)
}

// P5.1 and P5.2: where all evictable ones were touched no more than near ago, all of them count; such as aren't evictable don't help.
func TestAllNear(t *testing.T) {
	for _, near := range []int{5, 1000000} {
		l := make1(t, 3, 2, near, 0)
		touch(l, 1, 2, 3, 2, 1)
		wantVictims(t, l, 2, 1, 0)
	}
	l := make1(t, 3, 2, 2, 0)
	touch(l, 3, 1, 2, 1, 2, 1)
	l.Set(2, false) // it alone is far
	wantVictims(t, l, 1, 0)
}

// P5.1: what was far, as a Victim was asked for, is near again, when it was touched.
func TestNearAgain(t *testing.T) {
	l := make1(t, 4, 2, 2, 0)
	touch(l, 4, 1, 2, 3, 3, 2, 3, 3)
	l.Set(2, false)
	wantVictim(t, l, 3, true)
	touch(l, 1)
	// Last but one: 1's is at 2, 2's at 3; but 1 was touched just now.
	wantVictims(t, l, 1, 0)
}

// P5.1: a page that came isn't evictable at first; an Access of one that is there leaves that as it is; a Set that says the same again counts once.
func TestEvictable(t *testing.T) {
	for _, near := range []int{0, 1, 50} {
		l := make1(t, 2, 2, near, 2)
		l.Access(0, 1)
		l.Access(1, 2)
		wantVictims(t, l)
		wantGhosts(t, l)
		l.Access(0, 1)
		wantSize(t, l, 0)
		for range 2 {
			l.Set(0, true)
			wantSize(t, l, 1)
		}
		l.Access(0, 1)
		wantSize(t, l, 1)
		wantVictims(t, l, 0)
		l.Access(0, 3)
		wantVictims(t, l)
		l.Set(0, true)
		l.Set(1, true)
		for range 2 {
			l.Set(0, false)
			wantSize(t, l, 1)
		}
		wantVictims(t, l, 1)
		l.Set(0, true)
		wantVictims(t, l, 0)
	}
}

// P5.2: where Victim is false nothing changes, the time neither.
func TestFalseChangesNothing(t *testing.T) {
	l := make1(t, 3, 2, 2, 3)
	touch(l, 1, 3, 3, 1, 2, 3)
	for i := range 3 {
		l.Set(i, false)
	}
	for range 5 {
		wantVictim(t, l, 0, false)
	}
	wantGhosts(t, l)
	l.Set(0, true)
	l.Set(1, true)
	// Were the time more, 2 would be far enough to go first.
	wantVictims(t, l, 0, 1)
	wantGhosts(t, l, 1, 2)
}

// P5.1: neither Miss nor Victim, nor Set nor Remove, makes the time go on.
func TestTime(t *testing.T) {
	l := make1(t, 4, 2, 2, 0)
	touch(l, 1, 2, 4, 1, 2, 3, 4)
	for range 5 {
		l.Miss(9)
		l.Set(3, true)
		l.Set(3, false)
	}
	// 3, that has one touch alone, was touched 2 ago: were the time more by 1, it would go first.
	wantVictim(t, l, 0, true)
	l.Remove(3)
	wantVictims(t, l, 1, 2)
}

// P5.1: a page that comes again has its past, and isn't remembered any more.
func TestComesAgain(t *testing.T) {
	l := make1(t, 2, 2, 0, 2)
	touch(l, 1)
	wantVictim(t, l, 0, true)
	wantGhosts(t, l, 1)
	l.Miss(1)
	wantGhosts(t, l, 1) // it will come, but hasn't yet
	l.Access(0, 1)
	wantGhosts(t, l)
	l.Set(0, true)
	touch(l, 2)
	wantVictims(t, l, 1, 0) // without its past, 1 would go first
	wantGhosts(t, l, 2, 1)
}

// P5.1: one that comes again no more than near after its last touch has but one time yet.
func TestComesAgainNear(t *testing.T) {
	for near, want := range map[int][]int{1: {1, 0}, 2: {0, 1}} {
		l := make1(t, 3, 2, near, 2)
		touch(l, 1)
		wantVictim(t, l, 0, true)
		touch(l, 3, 1, 2, 3, 3, 3)
		l.Set(2, false)
		wantVictims(t, l, want...)
	}
}

// P5.1 and P5.3: if there are more than kept, the oldest one, by when it went, is forgotten, with its past.
func TestKept(t *testing.T) {
	l := make1(t, 5, 2, 0, 2)
	touch(l, 3, 1, 2, 4, 4)
	for _, frame := range []int{2, 0, 1} {
		wantVictim(t, l, frame, true)
	}
	wantGhosts(t, l, 1, 2)
	touch(l, 3, 2, 1, 5)
	wantGhosts(t, l)
	wantVictims(t, l, 2, 4, 0, 1, 3) // with its past, 3 would go behind 5
	wantGhosts(t, l, 2, 4)
	l = make1(t, 3, 2, 0, 2)
	touch(l, 1, 2)
	wantVictims(t, l, 0, 1)
	touch(l, 1)
	wantVictims(t, l, 0)
	wantGhosts(t, l, 2, 1) // it is the youngest one now
	touch(l, 3)
	wantVictims(t, l, 2)
	wantGhosts(t, l, 1, 3)
}

// P5.3: 0 as kept: no page is remembered, and no past.
func TestKeptNought(t *testing.T) {
	for kept, want := range [][]int{{0, 1}, {1, 0}} {
		l := make1(t, 2, 2, 0, kept)
		touch(l, 1)
		wantVictim(t, l, 0, true)
		wantGhosts(t, l, []uint32{1}[:kept]...)
		touch(l, 1, 2)
		wantGhosts(t, l)
		wantVictims(t, l, want...)
	}
}

// P5.1: the page that comes is forgotten by its own Victim, if it is the oldest one of as many as are kept.
func TestComingIsForgotten(t *testing.T) {
	l := make1(t, 3, 2, 0, 1)
	touch(l, 1)
	wantVictim(t, l, 0, true)
	touch(l, 2)
	l.Miss(1)
	if f, ok := l.Victim(1); f != 1 || !ok {
		t.Fatal(f, ok)
	}
	wantGhosts(t, l, 2)
	l.Access(1, 1)
	wantGhosts(t, l, 2)
	l.Set(1, true)
	touch(l, 3)
	wantVictims(t, l, 1, 2) // with its past, 1 would go behind 3
}

// P5.1: Remove forgets a page's past, and it isn't remembered.
func TestRemove(t *testing.T) {
	l := make1(t, 2, 2, 0, 3)
	touch(l, 1, 1)
	l.Remove(0)
	wantVictims(t, l)
	wantGhosts(t, l)
	l.Access(0, 1)
	wantVictims(t, l) // it isn't evictable at first
	l.Set(0, true)
	touch(l, 2)
	wantVictims(t, l, 0, 1) // with its past, 1 would go behind 2
	wantGhosts(t, l, 1, 2)
	touch(l, 2)
	l.Set(1, false)
	l.Remove(1)
	wantGhosts(t, l, 1)
	l.Access(1, 4)
	wantVictims(t, l)
}

// P5.1: behind a Miss, or a Victim, the page needn't come.
func TestComesNot(t *testing.T) {
	l := make1(t, 2, 2, 0, 2)
	touch(l, 1, 2)
	l.Miss(3)
	wantVictim(t, l, 0, true)
	l.Miss(1)
	wantGhosts(t, l, 1)
	wantVictims(t, l, 1)
	wantGhosts(t, l, 1, 2)
}

// P5.1: one that went may be accessed at once, in the frame that it had: it comes again, with its past.
func TestStaysAfterAll(t *testing.T) {
	l := make1(t, 3, 2, 0, 1)
	touch(l, 1, 2)
	l.Set(1, false)
	wantVictim(t, l, 0, true)
	wantGhosts(t, l, 1)
	l.Access(0, 1)
	wantGhosts(t, l)
	wantVictims(t, l)
	l.Set(0, true)
	touch(l, 3)
	wantVictims(t, l, 2, 0) // without its past, 1 would go first
}

// P5.4: what is answered is new, and one LRUK has nothing of another one.
func TestAnswersAreNew(t *testing.T) {
	l, m := make1(t, 2, 2, 0, 2), make1(t, 2, 2, 0, 2)
	touch(l, 1, 2)
	touch(m, 2, 2, 1)
	wantVictims(t, l, 0, 1)
	g := l.Ghosts()
	clear(g)
	_ = append(g[:1], 9)
	wantGhosts(t, l, 1, 2)
	g = l.Ghosts()
	touch(l, 1)
	if !slices.Equal(g, []uint32{1, 2}) {
		t.Errorf("an answer changed: %v", g)
	}
	wantGhosts(t, m)
	wantVictims(t, m, 0, 1)
}

// P5.1: a page's id may be any of its type.
func TestGreatIds(t *testing.T) {
	const most = math.MaxUint32
	l := make1(t, 2, 2, 0, 2)
	l.Access(0, most)
	l.Access(1, most-1)
	l.Set(0, true)
	l.Set(1, true)
	wantVictims(t, l, 0, 1)
	wantGhosts(t, l, most, most-1)
	l.Access(1, most)
	wantGhosts(t, l, most-1)
}

// P1 of this layer: calls of which nothing else is promised end, of a nil LRUK and of one that New didn't make, too.
func TestOtherCallsEnd(t *testing.T) {
	odd := []int{0, 1, 2, 3, -1, 4, api.MaxFrames, math.MinInt, math.MaxInt}
	pages := []uint32{0, 1, 2, math.MaxUint32}
	held := make1(t, 3, 2, 1, 1)
	touch(held, 1, 2, 3)
	for _, l := range []*lruk.LRUK{nil, {}, held, make1(t, 1, 1, 0, 0), make1(t, 2, 8, 3, 2)} {
		for _, frame := range odd {
			for _, page := range pages {
				l.Remove(frame)
				l.Set(frame, true)
				l.Victim(page)
				for i := range 3 {
					l.Access(frame, page)
					l.Access(i, page)
					l.Set(i, i != frame)
					l.Access(frame, page+1)
				}
				l.Set(frame, true)
				l.Victim(page)
				l.Victim(page)
				l.Miss(page)
				l.Miss(page)
				l.Access(frame, page)
				l.Remove(frame)
				l.Remove(frame)
				l.Set(frame, false)
				l.Size()
				l.Ghosts()
			}
		}
	}
	for _, l := range []*lruk.LRUK{nil, {}} {
		l.Access(0, 1)
		l.Set(0, true)
		wantVictims(t, l)
		wantGhosts(t, l)
	}
}

// P5.1: as many frames, and as many remembered, as there may be; a Victim that went through all frames would take minutes here.
func TestAllFrames(t *testing.T) {
	for _, near := range []int{0, 1000, 1000000} {
		l := make1(t, api.MaxFrames, 2, near, 65535)
		for i := range api.MaxFrames {
			touch(l, uint32(i+1))
		}
		for i := range 2 * api.MaxFrames {
			page := uint32(api.MaxFrames + i + 1)
			f, ok := l.Victim(page)
			if f != i%api.MaxFrames || !ok {
				t.Fatal(i, f, ok)
			}
			l.Access(f, page)
			l.Set(f, true)
		}
		g := l.Ghosts()
		if len(g) != 65535 || g[0] != api.MaxFrames+1 || g[65534] != 2*api.MaxFrames {
			t.Error(len(g))
		}
	}
}
