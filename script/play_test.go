package script_test

import (
	"math"
	"slices"
	"testing"

	"hatcheck/api"
	"hatcheck/crash"
	"hatcheck/disk"
	"hatcheck/front"
	"hatcheck/model"
	"hatcheck/pool"
	"hatcheck/script"
)

// byHand is what Play is to answer, made of the layers below.
func byHand(t *testing.T, s script.Script) *front.Front {
	t.Helper()
	d, e := disk.New(s.Room)
	if e != api.OK {
		t.Fatal(s, e)
	}
	p, e := pool.New(d, s.Frames, crash.Policy(s.Policy, s.Frames))
	if e != api.OK {
		t.Fatal(s, e)
	}
	f, e := front.New(p, s.Calls)
	if e != api.OK {
		t.Fatal(s, e)
	}
	for _, k := range s.Picks {
		f.Pick(k)
	}
	return f
}

// wantAlike holds two Fronts against one another.
func wantAlike(t *testing.T, s script.Script, f, want *front.Front) {
	t.Helper()
	if f == nil {
		t.Fatalf("%v: it can't be played", s)
	}
	if f.Latch() != want.Latch() || !slices.Equal(f.Log(), want.Log()) {
		t.Fatalf("%v: the latch is %d's, and the Log %v; want %d, %v", s, f.Latch(), f.Log(), want.Latch(), want.Log())
	}
	for k := range s.Calls {
		for id := range uint32(14) {
			if n := f.Holds(k, id); n != want.Holds(k, id) {
				t.Fatalf("%v: Holds(%d, %d): %d; want %d", s, k, id, n, want.Holds(k, id))
			}
		}
	}
}

// P13.1, Play: picks are made, and no more than they: the rest is left.
func TestPlay(t *testing.T) {
	s := script.Script{Frames: 1, Room: 1, Policy: "lru", Calls: [][]model.Op{{come(), unpin(1)}, {read(1), come()}}, Picks: []int{0, 1, 0, 0, 1, 0, 1}}
	f := script.Play(s)
	want := []front.Entry{
		{Client: 0, Index: 0, Op: come(), Answer: model.Answer{Id: 1}},
		{Client: 1, Index: 0, Op: read(1), Answer: model.Answer{Err: api.ErrNotPinned}},
	}
	if l := f.Log(); !slices.Equal(l, want) || f.Latch() != 1 || f.Holds(0, 1) != 1 {
		t.Fatalf("the Log %v, the latch %d, and %d pins; want %v, 1, 1", l, f.Latch(), f.Holds(0, 1), want)
	}
	f.Rest()
	want = append(want,
		front.Entry{Client: 0, Index: 1, Op: unpin(1)},
		front.Entry{Client: 1, Index: 1, Op: come(), Answer: model.Answer{Err: api.ErrFull}},
	)
	if l := f.Log(); !slices.Equal(l, want) || f.Latch() != -1 {
		t.Fatalf("the Log %v, the latch %d; want %v, -1", l, f.Latch(), want)
	}
	s.Picks = nil
	if f = script.Play(s); f == nil || f.Latch() != -1 || len(f.Log()) != 0 {
		t.Error("without picks something was done")
	}
}

// P13.1, Play: as many frames, and as much room, as it says; the disk is empty.
func TestPlaySizes(t *testing.T) {
	for _, size := range [][2]int{{1, 1}, {1, 5}, {5, 1}, {3, 4}, {4, 3}, {6, 12}, {7, 20}, {30, 13}} {
		frames, room := size[0], size[1]
		s := script.Script{Frames: frames, Room: room, Policy: "arc", Calls: [][]model.Op{slices.Repeat([]model.Op{come()}, 40)}}
		f := script.Play(s)
		f.Rest()
		for i, e := range f.Log() {
			want := model.Answer{Id: uint32(i + 1)}
			switch {
			case i >= frames && frames <= room:
				want = model.Answer{Err: api.ErrNoFrame}
			case i >= room:
				want = model.Answer{Err: api.ErrFull}
			}
			if e.Answer != want {
				t.Fatalf("%d frames, room for %d, New number %d: %v; want %v", frames, room, i, e.Answer, want)
			}
		}
	}
}

// P13.1, Play: what may not be.
func TestPlayOfNothing(t *testing.T) {
	good := script.Script{Frames: 2, Room: 3, Policy: "twoq", Calls: make([][]model.Op, 3), Picks: []int{0, 1, 2}}
	if script.Play(good) == nil {
		t.Error("it may be")
	}
	for _, n := range []int{math.MinInt, -1, 0, 65536, math.MaxInt} {
		s := good
		s.Frames = n
		if script.Play(s) != nil {
			t.Errorf("%d frames: no nil", n)
		}
		s = good
		s.Room = n
		if script.Play(s) != nil {
			t.Errorf("room for %d: no nil", n)
		}
	}
	for _, name := range []string{"", "Lru", "lru ", "lr", "none", "lruklru", "\x00"} {
		s := good
		s.Policy = name
		if script.Play(s) != nil {
			t.Errorf("the policy %q: no nil", name)
		}
	}
	for _, n := range []int{0, 9, 10, 1000} {
		s := good
		s.Calls = make([][]model.Op, n)
		if script.Play(s) != nil {
			t.Errorf("%d clients: no nil", n)
		}
	}
	good.Calls = nil
	if script.Play(good) != nil {
		t.Error("nil clients: no nil")
	}
}

// P13.1, Play: what just may be.
func TestPlayOfLimits(t *testing.T) {
	for _, name := range crash.Policies() {
		for _, n := range []int{1, 2, 65535} {
			for _, clients := range []int{1, 2, 8} {
				s := script.Script{Frames: n, Room: 65536 - n, Policy: name, Calls: make([][]model.Op, clients)}
				s.Calls[clients-1] = []model.Op{come(), unpin(1), remove(1)}
				s.Picks = slices.Repeat([]int{clients - 1, -1 << 20}, 9)
				f := script.Play(s)
				wantAlike(t, s, f, byHand(t, s))
				if f.Rest(); len(f.Log()) != 3 {
					t.Errorf("%s, %d, %d: %v", name, n, clients, f.Log())
				}
			}
		}
	}
}

// script is of any frames, room, policy, and number of clients, not only such as bytes say.
func (n *numbers) script() script.Script {
	s := script.Script{Frames: 1 + n.below(9), Room: 1 + n.below(14), Policy: crash.Policies()[n.below(5)], Calls: make([][]model.Op, 1+n.below(8))}
	for k := range s.Calls {
		for range n.below(20) {
			s.Calls[k] = append(s.Calls[k], model.Op{Kind: n.below(10) - 1, Id: uint32(n.below(6)), V: uint64(n.below(3))})
		}
	}
	for range n.below(300) {
		s.Picks = append(s.Picks, (n.below(100)-20)<<n.below(63))
	}
	return s
}

// P13.1, Play: as the layers below do, of any script.
func TestPlayLikeByHand(t *testing.T) {
	n := numbers(11)
	for range 500 {
		s := n.script()
		f, want := script.Play(s), byHand(t, s)
		wantAlike(t, s, f, want)
		f.Rest()
		want.Rest()
		wantAlike(t, s, f, want)
	}
}

// modelled does a Log's calls of one Model, with the rule of pins, and says which answer isn't alike.
func modelled(t *testing.T, s script.Script, l []front.Entry) {
	t.Helper()
	m, e := model.Begin(s.Frames, s.Room)
	if e != api.OK {
		t.Fatal(s, e)
	}
	type own struct {
		client int
		id     uint32
	}
	pins := map[own]int{}
	for i, x := range l {
		o, want := x.Op, model.Answer{Err: api.ErrNotPinned}
		_, there := m.Value(o.Id)
		asks := o.Kind == model.Unpin || o.Kind == model.Read || o.Kind == model.Write
		switch {
		case asks && !there:
			want.Err = api.ErrUnknown
		case !asks || pins[own{x.Client, o.Id}] > 0:
			want = m.Do(o)
		}
		switch {
		case want.Err != api.OK:
		case o.Kind == model.New:
			pins[own{x.Client, want.Id}]++
		case o.Kind == model.Fetch:
			pins[own{x.Client, o.Id}]++
		case o.Kind == model.Unpin:
			pins[own{x.Client, o.Id}]--
		}
		if x.Answer != want {
			t.Fatalf("%v: the Log's entry %d: %v; want %v", s, i, x, want)
		}
	}
}

// P13.1: whatever bytes there are, they can be played; and then answers are a Model's (P2), whichever policy there is (P3).
func TestAnyBytes(t *testing.T) {
	n := numbers(12)
	tried := [][]byte{nil, {}, slices.Repeat([]byte{255}, 300), make([]byte, 300)}
	for x := range 256 {
		tried = append(tried, []byte{byte(x)}, slices.Repeat([]byte{byte(x)}, 100))
	}
	for length := range 300 {
		tried = append(tried, n.bytes(length))
	}
	for _, b := range tried {
		s := script.Read(b)
		f := script.Play(s)
		wantAlike(t, s, f, byHand(t, s))
		f.Rest()
		l, calls := f.Log(), 0
		for _, c := range s.Calls {
			calls += len(c)
		}
		if len(l) != calls {
			t.Fatalf("%v: %d entries of %d calls", b, len(l), calls)
		}
		modelled(t, s, l)
		for _, s.Policy = range crash.Policies() {
			g := script.Play(s)
			g.Rest()
			if !slices.Equal(g.Log(), l) {
				t.Fatalf("%v, by %s: %v; want %v", b, s.Policy, g.Log(), l)
			}
		}
	}
}

// P13.3, Play: a Script's lists are neither changed, nor kept, their spare room neither.
func TestPlayKeepsNothing(t *testing.T) {
	n := numbers(13)
	for range 200 {
		s := n.script()
		s.Picks = slices.Clip(s.Picks)
		want := byHand(t, s)
		want.Rest()

		// All of it stands in lists with something behind, which is to stay.
		handed := s
		handed.Calls = append(slices.Clone(s.Calls), []model.Op{write(9, 9)})
		for k, l := range s.Calls {
			handed.Calls[k] = append(slices.Clone(l), write(9, 9))[:len(l)]
		}
		handed.Calls = handed.Calls[:len(s.Calls)]
		handed.Picks = append(slices.Clone(s.Picks), 9)[:len(s.Picks)]
		f := script.Play(handed)
		wantScript(t, "what was handed in", handed, s)
		for k, l := range handed.Calls {
			if l[:len(l)+1][len(l)] != write(9, 9) {
				t.Fatalf("the spare room of list %d was changed", k)
			}
			clear(l)
		}
		if len(handed.Calls[:len(s.Calls)+1][len(s.Calls)]) != 1 || handed.Picks[:len(s.Picks)+1][len(s.Picks)] != 9 {
			t.Fatal("spare room was changed")
		}
		clear(handed.Calls)
		clear(handed.Picks)
		f.Rest()
		wantAlike(t, s, f, want)
	}
}

// P13.3, Play: two Fronts of one Script share nothing.
func TestPlayTwice(t *testing.T) {
	s := script.Script{Frames: 2, Room: 2, Policy: "pro", Calls: [][]model.Op{{come(), write(1, 7), unpin(1)}, {come()}}, Picks: []int{0}}
	f, g := script.Play(s), script.Play(s)
	f.Rest()
	if len(g.Log()) != 0 || g.Latch() != 0 {
		t.Errorf("the other one: %v, the latch is %d's", g.Log(), g.Latch())
	}
	g.Rest()
	wantAlike(t, s, g, f)
}
