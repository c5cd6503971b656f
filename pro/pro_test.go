package pro_test

import (
	"bytes"
	"math"
	"slices"
	"testing"

	"hatcheck/api"
	"hatcheck/lru"
	"hatcheck/pro"
)

func make1(t *testing.T, frames int) *pro.Pro {
	t.Helper()
	p, e := pro.New(frames)
	if p == nil || e != api.OK {
		t.Fatalf("New(%d): %v, %v", frames, p, e)
	}
	return p
}

func wantSize(t *testing.T, r lru.Replacer, size int) {
	t.Helper()
	if n := r.Size(); n != size {
		t.Errorf("Size: %d; want %d", n, size)
	}
}

func wantGhosts(t *testing.T, r lru.Replacer, pages ...uint32) {
	t.Helper()
	if g := r.Ghosts(); !slices.Equal(g, pages) {
		t.Errorf("Ghosts: %v; want %v", g, pages)
	}
}

func wantHot(t *testing.T, p *pro.Pro, hot int) {
	t.Helper()
	if n := p.Hot(); n != hot {
		t.Errorf("Hot: %d; want %d", n, hot)
	}
}

func wantTarget(t *testing.T, p *pro.Pro, target int) {
	t.Helper()
	if m := p.Target(); m != target {
		t.Errorf("Target: %d; want %d", m, target)
	}
}

func wantVictim(t *testing.T, r lru.Replacer, page uint32, frame int, ok bool) {
	t.Helper()
	if f, is := r.Victim(page); f != frame || is != ok {
		t.Errorf("Victim(%d): %d, %v; want %d, %v", page, f, is, frame, ok)
	}
}

// table has pages that are letters, each in the least empty frame as it comes, or in that of the page that goes.
type table struct {
	t     *testing.T
	p     *pro.Pro
	pages []byte // by frame; 0: it is empty
}

func newTable(t *testing.T, frames int) table {
	t.Helper()
	return table{t: t, p: make1(t, frames), pages: make([]byte, frames)}
}

// step is touches, and what is to be seen behind them: whose pages went meanwhile, the ghosts from the hot hand on, how many are hot, and the target.
type step struct {
	touches, out, ghosts string
	hot, target          int
}

func (b table) play(steps ...step) {
	b.t.Helper()
	for _, s := range steps {
		if out := b.touch(s.touches); out != s.out {
			b.t.Errorf("%s: %q went; want %q", s.touches, out, s.out)
		}
		wantGhosts(b.t, b.p, ids(s.ghosts)...)
		wantHot(b.t, b.p, s.hot)
		wantTarget(b.t, b.p, s.target)
		if b.t.Failed() {
			b.t.Fatalf("behind %q", s.touches)
		}
	}
}

func ids(letters string) []uint32 {
	l := []uint32{}
	for _, c := range []byte(letters) {
		l = append(l, uint32(c))
	}
	return l
}

// touch touches pages; behind it one of a small letter may go, one of a capital letter may not; the page behind a / is removed. It tells whose pages went, or - where none may.
func (b table) touch(letters string) string {
	out := []byte{}
	for i, c := range []byte(letters) {
		page := c | 0x20
		switch frame := bytes.IndexByte(b.pages, page); {
		case c == '/':
		case i > 0 && letters[i-1] == '/':
			b.p.Remove(frame)
			b.pages[frame] = 0
		default:
			if frame < 0 {
				if frame = b.place(page, &out); frame < 0 {
					continue
				}
			}
			b.pages[frame] = page
			b.p.Access(frame, uint32(page))
			b.p.Set(frame, c == page)
		}
	}
	return string(out)
}

// place is a frame for a page that comes, or -1.
func (b table) place(page byte, out *[]byte) int {
	b.p.Miss(uint32(page))
	if frame := bytes.IndexByte(b.pages, 0); frame >= 0 {
		return frame
	}
	frame, ok := b.p.Victim(uint32(page))
	if !ok {
		*out = append(*out, '-')
		return -1
	}
	*out = append(*out, b.pages[frame])
	return frame
}

// P8.1, New: the target is at first the greatest one.
func TestNew(t *testing.T) {
	for _, frames := range []int{0, -1, api.MaxFrames + 1, math.MaxInt, math.MinInt} {
		if p, e := pro.New(frames); p != nil || e != api.ErrArg {
			t.Errorf("New(%d): %v, %v; want nil, ErrArg", frames, p, e)
		}
	}
	for frames, target := range map[int]int{1: 1, 2: 1, 3: 2, 10: 9, api.MaxFrames: api.MaxFrames - 1} {
		p := make1(t, frames)
		wantSize(t, p, 0)
		wantGhosts(t, p)
		wantHot(t, p, 0)
		wantTarget(t, p, target)
		wantVictim(t, p, 9, 0, false)
		p.Miss(1)
		p.Access(frames-1, 1)
		p.Set(frames-1, true)
		p.Miss(2)
		wantVictim(t, p, 2, frames-1, true)
	}
}

// P8.1: the chapter's example.
func TestExample(t *testing.T) {
	newTable(t, 2).play(
		step{"abac", "b", "b", 1, 1},
		step{"b", "c", "c", 1, 1},
	)
	b := newTable(t, 3)
	b.play(step{"abc", "", "", 0, 2}, step{"da", "ab", "b", 1, 2})
}

// P8.1: it is known by the interface alone.
func TestReplacer(t *testing.T) {
	var r lru.Replacer = make1(t, 1)
	r.Miss(1)
	r.Access(0, 1)
	wantVictim(t, r, 2, 0, false)
	r.Set(0, true)
	wantSize(t, r, 1)
	wantVictim(t, r, 2, 0, true)
	wantSize(t, r, 0)
	wantGhosts(t, r, 1)
}

// P8.1, Victim: a cold one that isn't touched goes, and is a ghost in its place, if it was in test; the hand goes on from there.
func TestColdGoes(t *testing.T) {
	newTable(t, 3).play(
		step{"abcd", "a", "a", 0, 2},
		step{"ef", "bc", "abc", 0, 2},
	)
	b := newTable(t, 2)
	b.play(step{"Abc", "b", "b", 0, 1})
	b.p.Set(0, true)
	b.play(step{"d", "a", "ab", 0, 1})                      // the hand was at a again, with c behind it
	newTable(t, 3).play(step{"abc/aade", "bc", "bc", 0, 2}) // by when they came, not by their frames
	newTable(t, 3).play(
		step{"abcdab", "abc", "", 1, 1}, // the hot hand ended d's test, and made a cold
		step{"ef", "da", "", 1, 1},      // so that neither is remembered
		step{"g", "e", "e", 1, 1},
	)
}

// P8.1, Victim: a cold one that is touched comes to the end: hot, if it was in test, else in test.
func TestColdTouched(t *testing.T) {
	newTable(t, 3).play(
		step{"abcbd", "a", "a", 0, 2}, // the hand isn't at b yet
		step{"e", "c", "ac", 1, 2},    // b is hot
		step{"f", "d", "acd", 1, 2},
	)
	newTable(t, 1).play(
		step{"aab", "a", "", 0, 1}, // hot, and at once cold, not in test, since 1 is too many
		step{"c", "b", "b", 0, 1},
	)
	newTable(t, 3).play(
		step{"abcdabe", "abcd", "", 1, 1}, // a is cold, and not in test
		step{"af", "e", "e", 1, 1},        // it is in test
		step{"ag", "f", "ef", 2, 1},       // it is hot
	)
}

// P8.1, Victim: one that is touched comes to the end, whether it may go or not; one that isn't, and may not go, is passed.
func TestHeld(t *testing.T) {
	newTable(t, 3).play(
		step{"AAbcd", "b", "b", 1, 2},
		step{"e", "c", "bc", 1, 2},
	)
	newTable(t, 3).play(
		step{"Abcd", "b", "b", 0, 2},
		step{"e", "c", "bc", 0, 2},
		step{"DEf", "-", "bc", 0, 2},
	)
	newTable(t, 4).play(
		step{"aaBcde", "c", "c", 1, 3}, // a, that is hot, is at the end
		step{"fg", "de", "cde", 1, 3},  // the hand passed a
		step{"b", "", "cde", 1, 3},     // the hand passed it as it might not go
		step{"hi", "fg", "defg", 1, 1},
	)
}

// P8.1, Victim: where the hand comes to none that goes, by 4 times as many steps as there were entries, and 4, it is the first that may go, from where the hand is then; it isn't remembered.
func TestHotGoes(t *testing.T) {
	newTable(t, 2).play(
		step{"aaBc", "a", "", 0, 1},
		step{"d", "c", "c", 0, 1},
	)
	newTable(t, 3).play(
		step{"abcdabe", "abcd", "", 1, 1}, // b is hot, a at the hand
		step{"AeF", "b", "", 1, 1},        // 2 steps bring a, and then e, that is hot, to the end; 14 more bring the hand to b
		step{"g", "e", "", 0, 1},          // 16 steps bring it from a to e
		step{"Gh", "-", "", 0, 1},
		step{"ah", "a", "", 1, 1}, // g and a are hot; 13 steps bring it from f to g, that may not go
	)
}

// P8.1, the hot hand: a ghost goes, another one's test ends, and the target is less by each; a hot one that isn't touched is cold, not in test.
func TestHotHand(t *testing.T) {
	newTable(t, 3).play(
		step{"abcda", "ab", "b", 1, 2},
		step{"b", "c", "", 1, 1}, // c goes, d's test ends, a is cold
		step{"ef", "da", "", 1, 1},
	)
	newTable(t, 5).play(
		step{"aabbcdef", "c", "", 1, 1}, // as b becomes hot, 3 tests end, of c, d and e, and a is cold; then c goes
		step{"g", "d", "", 1, 1},
	)
}

// P8.1, the hot hand: a hot one that is touched stays so, but isn't touched any more; it works again, as long as too many are hot.
func TestHotHandTouched(t *testing.T) {
	newTable(t, 3).play(
		step{"abcdabeafag", "abcdef", "ef", 2, 1}, // b and a are hot
		step{"be", "g", "g", 2, 1},                // b, that is touched, stays so, and a is cold
		step{"h", "a", "g", 2, 1},
		step{"g", "h", "h", 1, 2}, // of 3 just 1 may be: e, and then b, are cold
	)
	newTable(t, 3).play(
		step{"aabcdaef", "bcd", "bcd", 1, 2}, // the cold hand passed a, that is hot and touched, and left it so
		step{"c", "e", "", 1, 1},             // c is cold, when the ghosts behind a are gone
		step{"gh", "fc", "", 1, 1},
	)
}

// P8.1, the test hand: above c ghosts, one goes, and the target is less; 1 at least.
func TestTestHand(t *testing.T) {
	newTable(t, 3).play(
		step{"abcdef", "abc", "abc", 0, 2},
		step{"g", "d", "bcd", 0, 1},
		step{"h", "e", "cde", 0, 1},
	)
	newTable(t, 1).play(step{"abc", "ab", "b", 0, 1})
}

// P8.1, the test hand: of one in a frame the test ends, and the target is less; what isn't in test is passed.
func TestTestHandPasses(t *testing.T) {
	newTable(t, 3).play(
		step{"Abcdef", "bcd", "bcd", 0, 2},
		step{"g", "e", "cde", 0, 1},        // a's test ends, and b goes
		step{"/f/gahij", "h", "deh", 0, 1}, // so that a, touched, is in test again, but not hot
	)
	newTable(t, 4).play(
		step{"Abcdefg", "bcd", "bcd", 0, 3},
		step{"h", "e", "bcde", 0, 3},
		step{"i", "f", "cdef", 0, 1}, // 1 less for a, and 1 for b
	)
	hot := newTable(t, 5)
	hot.play(
		step{"aabcdef/c/d/e/fb", "b", "", 1, 4}, // b is hot, and a cold, not in test
		step{"/acdefghijkl", "cdefgh", "defgh", 1, 3},
	)
	cold := newTable(t, 5)
	cold.play(step{"aabcdef/c/d/e/fb", "b", "", 1, 4})
	cold.p.Set(bytes.IndexByte(cold.pages, 'a'), false)
	cold.play(step{"cdefghijk", "cdefgh", "defgh", 1, 3})
}

// P8.1, Access: a page that comes is hot, if it is a ghost's, that goes, and the target is more; else it is cold, and in test.
func TestComes(t *testing.T) {
	newTable(t, 4).play(
		step{"abcdefghi", "abcde", "bcde", 0, 2},
		step{"c", "f", "def", 1, 2}, // it was 1 less, for b
		step{"d", "g", "", 1, 1},    // more, and then less for e, f, g, h and i, till c is cold
	)
	newTable(t, 3).play(step{"abcda", "ab", "b", 1, 2}) // the greatest at most
	newTable(t, 2).play(step{"abcda", "abc", "bc", 0, 1})
}

// P8.1: of no entries, one that comes is alone, with all hands.
func TestAlone(t *testing.T) {
	newTable(t, 2).play(
		step{"abc/b/c", "a", "a", 0, 1},
		step{"a", "", "", 1, 1},
		step{"bc", "b", "b", 1, 1},
	)
	newTable(t, 1).play(
		step{"ab/b", "a", "a", 0, 1},
		step{"a", "", "", 0, 1}, // 1 is too many
		step{"b", "a", "", 0, 1},
		step{"/ba", "", "", 0, 1},
		step{"c", "a", "a", 0, 1},
	)
}

// P8.1: a page that came isn't evictable at first; an Access of one that is there leaves that as it is; a Set that says the same again counts once.
func TestEvictable(t *testing.T) {
	p := make1(t, 2)
	for range 3 {
		p.Miss(1)
		p.Access(0, 1)
		p.Miss(2)
		p.Access(1, 2)
		wantSize(t, p, 0)
		wantVictim(t, p, 3, 0, false)
		p.Access(0, 1)
		wantSize(t, p, 0)
		for range 2 {
			p.Set(0, true)
			wantSize(t, p, 1)
		}
		p.Access(0, 1)
		wantSize(t, p, 1)
		p.Set(1, true)
		wantSize(t, p, 2)
		for range 2 {
			p.Set(0, false)
			wantSize(t, p, 1)
		}
		wantVictim(t, p, 3, 1, true)
		wantVictim(t, p, 3, 0, false)
		p.Set(0, true)
		wantVictim(t, p, 3, 0, true)
		wantSize(t, p, 0)
	}
}

// P8.2: where Victim is false nothing changes.
func TestFalseChangesNothing(t *testing.T) {
	b := newTable(t, 2)
	b.play(step{"AABB", "", "", 0, 1})
	for _, page := range []uint32{'a', 'c', 0} {
		wantVictim(t, b.p, page, 0, false)
		wantGhosts(t, b.p)
		wantHot(t, b.p, 0)
		wantTarget(t, b.p, 1)
		wantSize(t, b.p, 0)
	}
	b.p.Set(0, true)
	b.p.Set(1, true)
	b.play(step{"c", "a", "", 1, 1}) // a was hot, till b was
}

// P8.1: a page that was removed has no entry, isn't remembered, and the next one in that frame isn't evictable at first; the hands at it move.
func TestRemove(t *testing.T) {
	b := newTable(t, 3)
	b.play(
		step{"abc/ade", "b", "b", 0, 2}, // the hands were at a
		step{"/c/d/ecdef", "c", "bc", 0, 2},
	)
	wantSize(t, b.p, 3)
	b.play(step{"/fF", "", "bc", 0, 2})
	wantSize(t, b.p, 2)
	b.play(step{"/F", "", "bc", 0, 2}) // that isn't evictable
	wantSize(t, b.p, 2)
	frame := bytes.IndexByte(b.pages, 0)
	b.p.Miss('g')
	b.p.Access(frame, 'g')
	wantSize(t, b.p, 2)
	for frame := range 3 {
		b.p.Remove(frame)
	}
	wantSize(t, b.p, 0)
	wantVictim(t, b.p, 'h', 0, false)
	wantGhosts(t, b.p, 'b', 'c')
	newTable(t, 2).play(
		step{"abac", "b", "b", 1, 1},
		step{"/a", "", "b", 0, 1}, // it was hot
		step{"ad", "c", "bc", 0, 1},
	)
}

// P8.1: a Miss changes nothing; behind a Miss, or a Victim, the page needn't come.
func TestComesNot(t *testing.T) {
	b := newTable(t, 2)
	b.play(step{"abc", "a", "a", 0, 1})
	b.p.Miss('a')
	b.p.Miss('d')
	wantGhosts(t, b.p, 'a')
	wantHot(t, b.p, 0)
	wantTarget(t, b.p, 1)
	wantVictim(t, b.p, 'd', 1, true)
	wantGhosts(t, b.p, 'a', 'b')
	wantSize(t, b.p, 1)
	b.pages[1] = 0
	b.play(step{"a", "", "b", 1, 1})
}

// P8.1: one that went may be accessed at once, in the frame that it had: it comes, hot, if it was remembered as it went, else cold.
func TestStaysAfterAll(t *testing.T) {
	b := newTable(t, 2)
	b.play(step{"ab", "", "", 0, 1})
	b.p.Miss('c')
	wantVictim(t, b.p, 'c', 0, true)
	wantGhosts(t, b.p, 'a')
	b.p.Access(0, 'a')
	wantGhosts(t, b.p)
	wantHot(t, b.p, 1)
	wantSize(t, b.p, 1)
	b.p.Set(0, true)
	b.play(step{"c", "b", "b", 1, 1})
	b = newTable(t, 1)
	b.play(step{"aa", "", "", 0, 1})
	b.p.Miss('b')
	wantVictim(t, b.p, 'b', 0, true)
	wantGhosts(t, b.p)
	b.p.Access(0, 'a')
	b.p.Set(0, true)
	b.play(step{"b", "a", "a", 0, 1})
}

// P8.4: what is answered is new, and one Pro has nothing of another one.
func TestAnswersAreNew(t *testing.T) {
	b, other := newTable(t, 3), newTable(t, 3)
	b.play(step{"abcde", "ab", "ab", 0, 2})
	g := b.p.Ghosts()
	clear(g)
	_ = append(g[:1], 9)
	wantGhosts(t, b.p, 'a', 'b')
	g = b.p.Ghosts()
	b.play(step{"a", "c", "bc", 1, 2})
	if !slices.Equal(g, ids("ab")) {
		t.Errorf("an answer changed: %v", g)
	}
	other.play(step{"", "", "", 0, 2})
}

// P8.1: a page's id may be any of its type.
func TestGreatIds(t *testing.T) {
	const most = math.MaxUint32
	p := make1(t, 2)
	for i, page := range []uint32{most, most - 1} {
		p.Miss(page)
		p.Access(i, page)
		p.Set(i, true)
	}
	wantVictim(t, p, 1, 0, true)
	wantVictim(t, p, 2, 1, true)
	wantGhosts(t, p, most, most-1)
	p.Miss(most)
	p.Access(1, most)
	wantGhosts(t, p, most-1)
	wantHot(t, p, 1)
}

// P1 of this layer: calls of which nothing else is promised end, of a nil Pro and of one that New didn't make, too.
func TestOtherCallsEnd(t *testing.T) {
	odd := []int{0, 1, 2, 3, -1, 4, api.MaxFrames, math.MinInt, math.MaxInt}
	pages := []uint32{0, 1, 2, 3, math.MaxUint32}
	full := newTable(t, 3)
	full.play(step{"abcdabeafag", "abcdef", "ef", 2, 1})
	for _, p := range []*pro.Pro{nil, {}, make1(t, 1), make1(t, 2), make1(t, 3), make1(t, 4), full.p} {
		for _, frame := range odd {
			for _, page := range pages {
				otherCalls(p, frame, page)
			}
		}
	}
	for _, p := range []*pro.Pro{nil, {}} {
		p.Miss(1)
		p.Access(0, 1)
		p.Set(0, true)
		wantSize(t, p, 0)
		wantVictim(t, p, 2, 0, false)
		wantGhosts(t, p)
		wantHot(t, p, 0)
		wantTarget(t, p, 0)
	}
}

func otherCalls(p *pro.Pro, frame int, page uint32) {
	p.Remove(frame)
	p.Set(frame, true)
	p.Victim(page)
	for i := range 4 {
		p.Access(frame, page)
		p.Access(i, page) // in two frames at once
		p.Set(i, i != frame)
		p.Miss(page)
		p.Access(frame, page+1)
	}
	p.Set(frame, true)
	for range 5 {
		p.Victim(page)
	}
	p.Miss(page)
	p.Miss(page)
	p.Access(frame, page)
	p.Remove(frame)
	p.Remove(frame)
	p.Set(frame, false)
	p.Size()
	p.Hot()
	p.Target()
	p.Ghosts()
}

// P8.3: a page that lies in two frames, as none should, is remembered once, and as many others as before.
func TestTwoFrames(t *testing.T) {
	p := make1(t, 2)
	for range 9 {
		p.Access(0, 1)
		p.Access(1, 1)
		p.Set(0, true)
		p.Set(1, true)
		p.Victim(2)
		p.Victim(2)
		wantSize(t, p, 0)
	}
	if g := p.Ghosts(); len(g) > 1 {
		t.Errorf("Ghosts: %v", g)
	}
}

// P8.1 and P8.3: as many frames, and as many remembered, as there may be.
func TestAllFrames(t *testing.T) {
	const most = api.MaxFrames
	p := make1(t, most)
	come := func(frame int, page uint32) {
		p.Access(frame, page)
		p.Set(frame, true)
	}
	for i := range most {
		p.Miss(uint32(i + 1))
		come(i, uint32(i+1))
	}
	for i := range most {
		page := uint32(most + i + 1)
		p.Miss(page)
		wantVictim(t, p, page, i, true)
		come(i, page)
	}
	g := p.Ghosts()
	if len(g) != most || g[0] != 1 || g[most-1] != most {
		t.Fatal(len(g))
	}
	wantTarget(t, p, most-1)
	p.Miss(2*most + 1)
	wantVictim(t, p, 2*most+1, 0, true)
	come(0, 2*most+1)
	if g := p.Ghosts(); len(g) != most || g[0] != 2 || g[most-1] != most+1 {
		t.Error(len(g))
	}
	wantTarget(t, p, most-2)
	p.Miss(3)
	wantVictim(t, p, 3, 1, true) // 2 is forgotten
	come(1, 3)
	wantTarget(t, p, most-2)
	wantHot(t, p, 1)
}
