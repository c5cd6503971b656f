package crash_test

import (
	"math"
	"slices"
	"testing"

	"hatcheck/api"
	"hatcheck/arc"
	"hatcheck/crash"
	"hatcheck/lru"
	"hatcheck/lruk"
	"hatcheck/pool"
	"hatcheck/pro"
	"hatcheck/twoq"
)

// P12.1, P12.4: the names, in order, as new memory.
func TestPolicies(t *testing.T) {
	want := []string{"lru", "lruk", "twoq", "arc", "pro"}
	l := crash.Policies()
	if !slices.Equal(l, want) {
		t.Errorf("Policies: %v; want %v", l, want)
	}
	clear(l)
	if l := crash.Policies(); !slices.Equal(l, want) {
		t.Errorf("Policies, when an answer was changed: %v; want %v", l, want)
	}
}

// P12.1, Policy: nil, if there is no such name, or frames aren't 1 to 65535.
func TestNoPolicy(t *testing.T) {
	others := []string{"", "none", "LRU", "Lru", "2q", "lr", "lrukk", "two", "a", "ar", "arcs", "pr", "pool", "lru\x00", "\xff"}
	for _, name := range crash.Policies() {
		for _, frames := range []int{0, -1, -4, 65536, 1 << 32, 1<<32 + 1, math.MaxInt, math.MinInt} {
			if r := crash.Policy(name, frames); r != nil {
				t.Errorf("Policy(%q, %d): %v; want nil", name, frames, r)
			}
		}
		others = append(others, name+" ", " "+name, name+name)
	}
	for _, other := range others {
		if r := crash.Policy(other, 3); r != nil {
			t.Errorf("Policy(%q, 3): %v; want nil", other, r)
		}
	}
}

// ours is the Replacer that the chapter has for a name.
func ours(t *testing.T, name string, frames int) lru.Replacer {
	t.Helper()
	var r lru.Replacer
	var e api.Errno
	switch name {
	case "lru":
		r, e = lru.New(frames)
	case "lruk":
		r, e = lruk.New(frames, 2, 1, frames)
	case "twoq":
		r, e = twoq.New(frames, frames/4, frames/2)
	case "arc":
		r, e = arc.New(frames)
	case "pro":
		r, e = pro.New(frames)
	default:
		t.Fatal(name)
	}
	if e != api.OK {
		t.Fatal(name, frames, e)
	}
	return r
}

// P12.1, Policy: each is of the type, the frames, and the other numbers that the chapter says.
func TestPolicy(t *testing.T) {
	for _, name := range crash.Policies() {
		for _, frames := range []int{1, 2, 3, 4, 5, 8, 9, 17} {
			// The second one is new: what another one was told isn't known to it.
			for range 2 {
				r := crash.Policy(name, frames)
				wantType(t, name, r)
				alike(t, name, frames, r, ours(t, name, frames))
			}
		}
		r := crash.Policy(name, api.MaxFrames)
		wantType(t, name, r)
		r.Miss(7)
		r.Access(api.MaxFrames-1, 7)
		r.Set(api.MaxFrames-1, true)
		sameVictim(t, name, r, pool.Advise([]int{api.MaxFrames - 1}), 8)
	}
}

func wantType(t *testing.T, name string, r lru.Replacer) {
	t.Helper()
	is := ""
	switch r.(type) {
	case *lru.LRU:
		is = "lru"
	case *lruk.LRUK:
		is = "lruk"
	case *twoq.TwoQ:
		is = "twoq"
	case *arc.ARC:
		is = "arc"
	case *pro.Pro:
		is = "pro"
	}
	if is != name {
		t.Fatalf("Policy(%q): another one, %q", name, is)
	}
}

// alike tells two Replacers of the same frames the same, as chapter 4 says, and asks them the same.
func alike(t *testing.T, name string, frames int, r, s lru.Replacer) {
	t.Helper()
	n := numbers(frames)
	places := map[uint32]int{}
	pages := make([]uint32, frames)
	for range 3000 {
		page := uint32(1 + n.below(2*frames+2))
		frame, there := places[page]
		if !there {
			r.Miss(page)
			s.Miss(page)
			if len(places) < frames {
				frame = len(places)
			} else {
				frame = sameVictim(t, name, r, s, page)
				delete(places, pages[frame])
			}
			places[page], pages[frame] = frame, page
		}
		for _, r := range []lru.Replacer{r, s} {
			r.Access(frame, page)
			r.Set(frame, true)
		}
		if !slices.Equal(r.Ghosts(), s.Ghosts()) {
			t.Fatalf("%s, %d frames: Ghosts: %v; want %v", name, frames, r.Ghosts(), s.Ghosts())
		}
	}
	for r.Size() > 0 {
		sameVictim(t, name, r, s, 9)
	}
	if s.Size() > 0 || !slices.Equal(r.Ghosts(), s.Ghosts()) {
		t.Errorf("%s, %d frames: %d Ghosts; want %d", name, frames, len(r.Ghosts()), len(s.Ghosts()))
	}
}

func sameVictim(t *testing.T, name string, r, s lru.Replacer, page uint32) int {
	t.Helper()
	f, ok := r.Victim(page)
	g, also := s.Victim(page)
	if f != g || !ok || !also {
		t.Fatalf("%s: Victim(%d): %d, %v; want %d, %v", name, page, f, ok, g, also)
	}
	return f
}

// numbers are the same ones at each run.
type numbers uint64

func (n *numbers) below(m int) int {
	*n = *n*6364136223846793005 + 1442695040888963407
	return int(uint64(*n)>>33) % m
}
