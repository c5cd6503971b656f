package arc_test

import (
	"bytes"
	"math"
	"slices"
	"testing"

	"hatcheck/api"
	"hatcheck/arc"
	"hatcheck/lru"
)

func make1(t *testing.T, frames int) *arc.ARC {
	t.Helper()
	a, e := arc.New(frames)
	if a == nil || e != api.OK {
		t.Fatalf("New(%d): %v, %v", frames, a, e)
	}
	return a
}

func wantSize(t *testing.T, r lru.Replacer, size int) {
	t.Helper()
	if n := r.Size(); n != size {
		t.Errorf("Size: %d; want %d", n, size)
	}
}

func wantGhosts(t *testing.T, r lru.Replacer, pages ...uint32) {
	t.Helper()
	if g := r.Ghosts(); !slices.Equal(g, pages) {
		t.Errorf("Ghosts: %v; want %v", g, pages)
	}
}

func wantTarget(t *testing.T, a *arc.ARC, target int) {
	t.Helper()
	if p := a.Target(); p != target {
		t.Errorf("Target: %d; want %d", p, target)
	}
}

func wantVictim(t *testing.T, r lru.Replacer, page uint32, frame int, ok bool) {
	t.Helper()
	if f, is := r.Victim(page); f != frame || is != ok {
		t.Errorf("Victim(%d): %d, %v; want %d, %v", page, f, is, frame, ok)
	}
}

// table has pages that are letters, each in the least empty frame as it comes, or in that of the page that goes.
type table struct {
	t     *testing.T
	a     *arc.ARC
	pages []byte // by frame; 0: it is empty
}

func newTable(t *testing.T, frames int) table {
	t.Helper()
	return table{t: t, a: make1(t, frames), pages: make([]byte, frames)}
}

// step is touches, and what is to be seen behind them: whose pages went meanwhile, those of B1 and then of B2, and the target.
type step struct {
	touches, out, ghosts string
	target               int
}

func (b table) play(steps ...step) {
	b.t.Helper()
	for _, s := range steps {
		if out := b.touch(s.touches); out != s.out {
			b.t.Errorf("%s: %q went; want %q", s.touches, out, s.out)
		}
		wantGhosts(b.t, b.a, ids(s.ghosts)...)
		wantTarget(b.t, b.a, s.target)
		if b.t.Failed() {
			b.t.Fatalf("behind %q", s.touches)
		}
	}
}

func ids(letters string) []uint32 {
	l := []uint32{}
	for _, c := range []byte(letters) {
		l = append(l, uint32(c))
	}
	return l
}

// touch touches pages; behind it one of a small letter may go, one of a capital letter may not; the page behind a / is removed. It tells whose pages went, or - where none may.
func (b table) touch(letters string) string {
	out := []byte{}
	for i, c := range []byte(letters) {
		page := c | 0x20
		switch frame := bytes.IndexByte(b.pages, page); {
		case c == '/':
		case i > 0 && letters[i-1] == '/':
			b.a.Remove(frame)
			b.pages[frame] = 0
		default:
			if frame < 0 {
				if frame = b.place(page, &out); frame < 0 {
					continue
				}
			}
			b.pages[frame] = page
			b.a.Access(frame, uint32(page))
			b.a.Set(frame, c == page)
		}
	}
	return string(out)
}

// place is a frame for a page that comes, or -1.
func (b table) place(page byte, out *[]byte) int {
	b.a.Miss(uint32(page))
	if frame := bytes.IndexByte(b.pages, 0); frame >= 0 {
		return frame
	}
	frame, ok := b.a.Victim(uint32(page))
	if !ok {
		*out = append(*out, '-')
		return -1
	}
	*out = append(*out, b.pages[frame])
	return frame
}

// P7.1, New.
func TestNew(t *testing.T) {
	for _, frames := range []int{0, -1, api.MaxFrames + 1, math.MaxInt, math.MinInt} {
		if a, e := arc.New(frames); a != nil || e != api.ErrArg {
			t.Errorf("New(%d): %v, %v; want nil, ErrArg", frames, a, e)
		}
	}
	for _, frames := range []int{1, 2, api.MaxFrames} {
		a := make1(t, frames)
		wantSize(t, a, 0)
		wantGhosts(t, a)
		wantTarget(t, a, 0)
		wantVictim(t, a, 9, 0, false)
		a.Miss(1)
		a.Access(frames-1, 1)
		a.Set(frames-1, true)
		a.Miss(2)
		wantVictim(t, a, 2, frames-1, true)
	}
}

// P7.1: the chapter's example.
func TestExample(t *testing.T) {
	b := newTable(t, 2)
	b.play(step{"aab", "", "", 0})
	b.a.Miss('c')
	wantVictim(t, b.a, 'c', 1, true)
	wantGhosts(t, b.a, 'b')
	b.a.Miss('b')
	wantTarget(t, b.a, 1)
}

// P7.1: the document's example of the whole.
func TestExampleOfTheWhole(t *testing.T) {
	newTable(t, 2).play(step{"aabcb", "ba", "a", 1})
}

// P7.1: it is known by the interface alone.
func TestReplacer(t *testing.T) {
	var r lru.Replacer = make1(t, 1)
	r.Miss(1)
	r.Access(0, 1)
	wantVictim(t, r, 2, 0, false)
	r.Set(0, true)
	wantSize(t, r, 1)
	wantVictim(t, r, 2, 0, true)
	wantSize(t, r, 0)
}

// P7.1, Victim: as long as the target is 0, one touched once goes first, the eldest one; if there is none, the eldest one touched again.
func TestEldest(t *testing.T) {
	newTable(t, 4).play(
		step{"aabbcdef", "cd", "cd", 0},
		step{"ef", "", "cd", 0}, // none touched once is left: T2 is a, b, e, f
		step{"g", "a", "cda", 0},
		step{"h", "g", "cdga", 0},
	)
	newTable(t, 3).play(
		step{"aabbccbad", "c", "c", 0}, // a touch makes one of T2 its youngest
		step{"de", "b", "cb", 0},
	)
	newTable(t, 3).play(step{"cabbd", "c", "c", 0}) // by when they came, not by their frames
}

// P7.1, Victim: T1 is preferred above the target; at the target just for a page of B2; below it T2 is.
func TestPreferred(t *testing.T) {
	newTable(t, 2).play(
		step{"aabc", "b", "b", 0},
		step{"b", "a", "a", 1}, // 1 is the target: for a page of B1 T2 gives one
		step{"a", "c", "c", 0}, // above the target
		step{"c", "b", "b", 1}, // T1 is empty
		step{"ca", "", "b", 1}, // both are there
	)
	newTable(t, 3).play(
		step{"abcddab", "abc", "c", 1},
		step{"e", "d", "cd", 1}, // at the target, for a page that isn't remembered
	)
	newTable(t, 4).play(
		step{"aabbccddeeffgghi", "abcdh", "hbcd", 0},
		step{"h", "e", "cde", 3}, // T1 is i alone, below the target
		step{"c", "f", "def", 2}, // so it is still
		step{"d", "i", "ief", 1}, // at the target, for a page of B2
	)
}

// P7.1, Victim: if no frame of the preferred row is evictable, the other one's eldest evictable one goes.
func TestOtherRow(t *testing.T) {
	newTable(t, 4).play(
		step{"aabbCDe", "a", "a", 0}, // T1 is preferred, but held: T2's goes
		step{"Bf", "e", "ea", 0},     // and here T1's youngest
		step{"F", "", "ea", 0},
		step{"g", "-", "ea", 0},
		step{"dg", "d", "ead", 0}, // T1 is c alone, and held
	)
}

// P7.1, Victim: one that was touched once is forgotten, if all c frames had such, and the page that comes isn't remembered.
func TestForgotten(t *testing.T) {
	newTable(t, 2).play(step{"abcd", "ab", "", 0})
	newTable(t, 1).play(step{"abc", "ab", "", 0})
	newTable(t, 3).play(
		step{"abcd", "a", "", 0},
		step{"de", "b", "b", 0}, // no more than 2 of 3 were touched once
	)
	newTable(t, 2).play( // one touched again is remembered, whatever there is
		step{"aabbc", "a", "a", 0},
		step{"/bd", "", "a", 0},
		step{"e", "c", "a", 0}, // all were touched once
	)
	newTable(t, 2).play(
		step{"aabbc/bd", "a", "a", 0},
		step{"a", "c", "c", 0}, // so they were, but the page that comes is of B2
	)
	newTable(t, 1).play(
		step{"aaba", "ab", "b", 0},
		step{"b", "a", "a", 1}, // of B1
	)
}

// P7.1, Victim, and P7.3: there are c remembered pages at most; the eldest of B1 is forgotten, if it has more than B2; else that of B2.
func TestBound(t *testing.T) {
	b := newTable(t, 4)
	b.play(
		step{"aabbccddeeffgghi", "abcdh", "hbcd", 0},
		step{"h", "e", "cde", 3}, // h, and b to e: b is forgotten
		step{"FGHj", "i", "icde", 3},
		step{"i", "j", "jde", 4}, // i and j, and c to e: c is
		step{"k", "i", "jdei", 4},
		step{"l", "k", "jkei", 4},
		step{"m", "l", "jkli", 4},
		step{"i", "m", "klm", 1}, // j to m, and i: j is
	)
	newTable(t, 1).play(
		step{"aab", "a", "a", 0},
		step{"a", "b", "b", 0}, // one each: that of B2 is, though it is what comes, so that it comes as a new one
		step{"c", "a", "", 0},  // as all that were touched once
	)
}

// P7.1, Miss: of a page of B1 the target grows by 1, or by |B2| divided by |B1|, if that is greater, to c at most.
func TestTargetGrows(t *testing.T) {
	newTable(t, 4).play(
		step{"aabbccddeeffgghi", "abcdh", "hbcd", 0},
		step{"h", "e", "cde", 3}, // 3 divided by 1
		step{"FGHj", "i", "icde", 3},
		step{"i", "j", "jde", 4}, // 3 more would be above 4
	)
	newTable(t, 5).play(
		step{"aabbccddeeffgghhijk", "abcdij", "ijbcd", 0},
		step{"i", "e", "jcde", 1}, // 3 divided by 2
	)
	newTable(t, 2).play(step{"aabcb", "ba", "a", 1}) // 0 divided by 1
}

// P7.1, Miss: of a page of B2 the target becomes less by 1, or by |B1| divided by |B2|, if that is greater, 0 at least.
func TestTargetShrinks(t *testing.T) {
	newTable(t, 4).play(
		step{"aabbccddeeffgghihFGHjiklm", "abcdheijikl", "jkli", 4},
		step{"i", "m", "klm", 1}, // 3 divided by 1
		step{"n", "i", "klmi", 1},
		step{"i", "n", "lmn", 0}, // 3 less would be below 0
	)
	newTable(t, 4).play(
		step{"aabbccddeeffgghih", "abcdhe", "cde", 3},
		step{"c", "f", "def", 2}, // 0 divided by 3
	)
	newTable(t, 2).play(step{"aabbca", "ac", "c", 0})
}

// P7.1, Miss: of a page that isn't remembered: if T1 and B1 have c or more, the eldest of B1 is forgotten, if there is one, and none of B2.
func TestMissForgetsOfB1(t *testing.T) {
	b := newTable(t, 4)
	b.play(step{"aabbcdef", "cd", "cd", 0}) // T1 is e, f
	b.a.Miss('g')
	wantGhosts(t, b.a, 'd')
	b.a.Miss('g') // 3 are fewer than 4, and 5 than 8
	wantGhosts(t, b.a, 'd')
	b = newTable(t, 2)
	b.play(step{"aabbccdd/c/def", "ab", "ab", 0}) // T1 is e, f
	b.a.Miss('g')
	wantGhosts(t, b.a, 'a', 'b')
	b = newTable(t, 5)
	b.play(step{"aabbccddeefghij", "afghi", "fghia", 0}) // T1 is j, and all are 10
	b.a.Miss('k')
	wantGhosts(t, b.a, 'g', 'h', 'i', 'a')
	wantTarget(t, b.a, 0)
}

// P7.1, Miss: else, if all four rows have 2 times c or more, the eldest of B2 is.
func TestMissForgetsOfB2(t *testing.T) {
	b := newTable(t, 2)
	b.play(step{"aabbccd", "ab", "ab", 0}) // T1 is d, T2 c
	b.a.Miss('e')
	wantGhosts(t, b.a, 'b')
	b.a.Miss('e') // 3 are fewer than 4
	wantGhosts(t, b.a, 'b')
	wantTarget(t, b.a, 0)
	b = newTable(t, 2)
	b.play(step{"aabbccdd", "ab", "ab", 0}) // T1 is empty
	b.a.Miss('e')
	wantGhosts(t, b.a, 'b')
}

// P7.1, Miss: of a page that is remembered nothing is forgotten; it is remembered till it has come.
func TestMissOfRemembered(t *testing.T) {
	b := newTable(t, 2)
	b.play(step{"aabbccd", "ab", "ab", 0})
	b.a.Miss('a')
	wantGhosts(t, b.a, 'a', 'b')
	b = newTable(t, 3)
	b.play(step{"aabcd", "b", "b", 0}) // T1 is c, d
	b.a.Miss('b')
	wantGhosts(t, b.a, 'b')
	wantTarget(t, b.a, 1)
	wantVictim(t, b.a, 'b', 2, true)
	wantGhosts(t, b.a, 'b', 'c')
	b.a.Access(2, 'b')
	wantGhosts(t, b.a, 'c')
}

// P7.1, Access: a page that comes is the youngest of T2, if it is remembered, and isn't any more; else the youngest of T1.
func TestComes(t *testing.T) {
	newTable(t, 3).play(
		step{"aabbccdef", "ade", "dea", 0},
		step{"a", "f", "ef", 0}, // of B2: T2 is b, c, a
		step{"e", "b", "fb", 1}, // of B1: T2 is c, a, e
		step{"g", "c", "fbc", 1},
	)
	newTable(t, 2).play(
		step{"abca", "ab", "", 0}, // a was forgotten: T1 is c, a
		step{"d", "c", "", 0},     // so that c is forgotten, too
	)
}

// P7.1, Access: a page that is in a frame becomes the youngest of T2, from T1 as from T2, and from T2's end.
func TestTouched(t *testing.T) {
	newTable(t, 3).play(
		step{"abcacbb", "", "", 0}, // T2 is a, c, b
		step{"dd", "a", "a", 0},
		step{"cee", "b", "ab", 0}, // T2 is d, c, e
		step{"f", "d", "abd", 0},
	)
	newTable(t, 3).play(
		step{"abcb", "", "", 0}, // T1 is a, c
		step{"d", "a", "a", 0},
		step{"cde", "b", "ab", 0},
	)
}

// P7.1: what isn't evictable never goes, however old it is, and counts in its row.
func TestHeld(t *testing.T) {
	newTable(t, 4).play(
		step{"aabBCDE", "a", "a", 0}, // T1 is c, d, e, and T2 b
		step{"f", "-", "a", 0},
		step{"ef", "e", "ae", 0}, // e was touched again
		step{"g", "f", "fae", 0}, // T1 was c, d, f
	)
	newTable(t, 3).play(
		step{"ABcd", "c", "", 0}, // T1 was all frames, though but one could go
		step{"e", "d", "", 0},
	)
}

// P7.1: a page that came isn't evictable at first; an Access of one that is there leaves that as it is; a Set that says the same again counts once.
func TestEvictable(t *testing.T) {
	a := make1(t, 2)
	for range 3 {
		a.Miss(1)
		a.Access(0, 1)
		a.Miss(2)
		a.Access(1, 2)
		wantSize(t, a, 0)
		wantVictim(t, a, 3, 0, false)
		a.Access(0, 1)
		wantSize(t, a, 0)
		for range 2 {
			a.Set(0, true)
			wantSize(t, a, 1)
		}
		a.Access(0, 1)
		wantSize(t, a, 1)
		a.Set(1, true)
		wantSize(t, a, 2)
		for range 2 {
			a.Set(0, false)
			wantSize(t, a, 1)
		}
		wantVictim(t, a, 3, 1, true)
		wantVictim(t, a, 3, 0, false)
		a.Set(0, true)
		wantVictim(t, a, 3, 0, true)
		wantSize(t, a, 0)
	}
}

// P7.2: where Victim is false nothing changes.
func TestFalseChangesNothing(t *testing.T) {
	b := newTable(t, 4)
	b.play(step{"aabbccddeeffgghi", "abcdh", "hbcd", 0}, step{"h", "e", "cde", 3})
	for frame := range 4 {
		b.a.Set(frame, false)
	}
	for _, page := range []uint32{'c', 'd', 'z', 0} {
		wantVictim(t, b.a, page, 0, false)
		wantGhosts(t, b.a, 'c', 'd', 'e')
		wantTarget(t, b.a, 3)
		wantSize(t, b.a, 0)
	}
	for frame := range 4 {
		b.a.Set(frame, true)
	}
	b.play(step{"c", "f", "def", 2}, step{"d", "i", "ief", 1})
}

// P7.1: a page that was removed is in no row, isn't remembered, and the next one in that frame isn't evictable at first.
func TestRemove(t *testing.T) {
	b := newTable(t, 4)
	b.play(
		step{"aabbcdef", "cd", "cd", 0},
		step{"/a/e", "", "cd", 0}, // of T2, and of T1
	)
	wantSize(t, b.a, 2)
	b.play(
		step{"gh", "", "d", 0}, // c is forgotten as h comes: T1 is f, g, h
		step{"i", "f", "f", 0},
		step{"a", "g", "g", 0}, // it comes as one that wasn't touched yet
		step{"/i", "", "g", 0},
	)
	wantSize(t, b.a, 3)
	b.play(step{"I", "", "g", 0})
	wantSize(t, b.a, 3)
	b.play(step{"/I", "", "g", 0}) // that isn't evictable
	wantSize(t, b.a, 3)
	b.a.Miss('i')
	b.a.Access(bytes.IndexByte(b.pages, 0), 'i')
	b.pages[bytes.IndexByte(b.pages, 0)] = 'i'
	wantSize(t, b.a, 3)
	b.play(step{"jk", "ha", "a", 0}) // T1 was h, a, i, of which i is held
	for frame := range 4 {
		b.a.Remove(frame)
	}
	wantSize(t, b.a, 0)
	wantVictim(t, b.a, 'f', 0, false)
	wantGhosts(t, b.a, 'a')
}

// P7.1: behind a Miss, or a Victim, the page needn't come.
func TestComesNot(t *testing.T) {
	b := newTable(t, 2)
	b.play(step{"aabc", "b", "b", 0})
	b.a.Miss('b') // T1 is c, T2 a
	wantTarget(t, b.a, 1)
	wantGhosts(t, b.a, 'b')
	b.a.Miss('b')
	wantTarget(t, b.a, 2)
	wantVictim(t, b.a, 'b', 0, true)
	wantGhosts(t, b.a, 'b', 'a')
	wantSize(t, b.a, 1)
	b.pages[0] = 0
	b.play(
		step{"a", "", "b", 1},  // of B2, so that it is of T2
		step{"d", "a", "a", 1}, // b is forgotten; T1 is c, at the target
	)
}

// P7.1: one that went may be accessed at once, in the frame that it had: it comes, of T2, if it was remembered as it went, else of T1.
func TestStaysAfterAll(t *testing.T) {
	b := newTable(t, 2)
	b.play(step{"aab", "", "", 0})
	b.a.Miss('c')
	wantVictim(t, b.a, 'c', 1, true)
	wantGhosts(t, b.a, 'b')
	b.a.Access(1, 'b')
	wantGhosts(t, b.a)
	wantSize(t, b.a, 1)
	b.a.Set(1, true)
	b.play(step{"c", "a", "a", 0}, step{"b", "", "a", 0}, step{"d", "c", "ca", 0})
	b = newTable(t, 2)
	b.play(step{"ab", "", "", 0})
	b.a.Miss('c')
	wantVictim(t, b.a, 'c', 0, true)
	wantGhosts(t, b.a)
	b.a.Access(0, 'a')
	b.a.Set(0, true)
	b.play(step{"cd", "ba", "", 0}) // both of T1, which is all frames
}

// P7.4: what is answered is new, and one ARC has nothing of another one.
func TestAnswersAreNew(t *testing.T) {
	b, other := newTable(t, 4), newTable(t, 4)
	b.play(step{"aabbcdef", "cd", "cd", 0})
	g := b.a.Ghosts()
	clear(g)
	_ = append(g[:1], 9)
	wantGhosts(t, b.a, 'c', 'd')
	g = b.a.Ghosts()
	b.play(step{"c", "e", "de", 1})
	if !slices.Equal(g, ids("cd")) {
		t.Errorf("an answer changed: %v", g)
	}
	other.play(step{"", "", "", 0})
}

// P7.1: a page's id may be any of its type.
func TestGreatIds(t *testing.T) {
	const most = math.MaxUint32
	a := make1(t, 2)
	for i, page := range []uint32{most, most - 1} {
		a.Miss(page)
		a.Access(i, page)
		a.Access(i, page)
		a.Set(i, true)
	}
	wantVictim(t, a, 1, 0, true)
	wantVictim(t, a, 2, 1, true)
	wantGhosts(t, a, most, most-1)
	a.Miss(most)
	a.Access(1, most)
	wantGhosts(t, a, most-1)
}

// P1 of this layer: calls of which nothing else is promised end, of a nil ARC and of one that New didn't make, too.
func TestOtherCallsEnd(t *testing.T) {
	odd := []int{0, 1, 2, 3, -1, 4, api.MaxFrames, math.MinInt, math.MaxInt}
	pages := []uint32{0, 1, 2, 3, math.MaxUint32}
	full := newTable(t, 4)
	full.play(step{"aabbccddeeffgghi", "abcdh", "hbcd", 0})
	for _, a := range []*arc.ARC{nil, {}, make1(t, 1), make1(t, 2), make1(t, 3), full.a} {
		for _, frame := range odd {
			for _, page := range pages {
				a.Remove(frame)
				a.Set(frame, true)
				a.Victim(page)
				for i := range 4 {
					a.Access(frame, page)
					a.Access(i, page) // in two frames at once
					a.Set(i, i != frame)
					a.Miss(page)
					a.Access(frame, page+1)
				}
				a.Set(frame, true)
				for range 5 {
					a.Victim(page)
				}
				a.Miss(page)
				a.Miss(page)
				a.Access(frame, page)
				a.Remove(frame)
				a.Remove(frame)
				a.Set(frame, false)
				a.Size()
				a.Target()
				a.Ghosts()
			}
		}
	}
	for _, a := range []*arc.ARC{nil, {}} {
		a.Miss(1)
		a.Access(0, 1)
		a.Set(0, true)
		wantSize(t, a, 0)
		wantVictim(t, a, 2, 0, false)
		wantGhosts(t, a)
		wantTarget(t, a, 0)
	}
}

// P7.1 and P7.3: as many frames, and as many remembered, as there may be.
func TestAllFrames(t *testing.T) {
	const most = api.MaxFrames
	a := make1(t, most)
	for i := range most {
		a.Miss(uint32(i + 1))
		a.Access(i, uint32(i+1))
		a.Access(i, uint32(i+1))
		a.Set(i, true)
	}
	for i := range most {
		page := uint32(most + i + 1)
		a.Miss(page)
		wantVictim(t, a, page, i, true)
		a.Access(i, page)
		a.Access(i, page)
		a.Set(i, true)
	}
	g := a.Ghosts()
	if len(g) != most || g[0] != 1 || g[most-1] != most {
		t.Fatal(len(g))
	}
	a.Miss(2*most + 1) // all are 2 times as many
	wantVictim(t, a, 2*most+1, 0, true)
	a.Access(0, 2*most+1)
	a.Set(0, true)
	a.Miss(2*most + 2)
	wantVictim(t, a, 2*most+2, 0, true)
	a.Access(0, 2*most+2)
	a.Set(0, true)
	a.Miss(2*most + 1) // alone in B1, beside all but one of B2
	wantTarget(t, a, most-1)
	if g := a.Ghosts(); len(g) != most || g[0] != 2*most+1 {
		t.Error(len(g))
	}
}
