package script_test

import (
	"math"
	"reflect"
	"slices"
	"testing"

	"hatcheck/api"
	"hatcheck/model"
	"hatcheck/script"
)

// The calls.
func come() model.Op                     { return model.Op{Kind: model.New} }
func fetch(id uint32) model.Op           { return model.Op{Kind: model.Fetch, Id: id} }
func unpin(id uint32) model.Op           { return model.Op{Kind: model.Unpin, Id: id} }
func read(id uint32) model.Op            { return model.Op{Kind: model.Read, Id: id} }
func write(id uint32, v uint64) model.Op { return model.Op{Kind: model.Write, Id: id, V: v} }
func flush(id uint32) model.Op           { return model.Op{Kind: model.Flush, Id: id} }
func flushAll() model.Op                 { return model.Op{Kind: model.FlushAll} }
func remove(id uint32) model.Op          { return model.Op{Kind: model.Delete, Id: id} }

// wantScript holds one against another; nil and empty lists are one.
func wantScript(t *testing.T, what any, s, want script.Script) {
	t.Helper()
	same := s.Frames == want.Frames && s.Room == want.Room && s.Policy == want.Policy && slices.Equal(s.Picks, want.Picks)
	if !same || !slices.EqualFunc(s.Calls, want.Calls, slices.Equal[[]model.Op]) {
		t.Fatalf("%v: %v; want %v", what, s, want)
	}
}

// wantCalls is what bytes from 4 on are to say; there are three clients, whether they call or not.
func wantCalls(t *testing.T, body []byte, want ...[]model.Op) {
	t.Helper()
	var picks []int
	for _, x := range body {
		picks = append(picks, int(x))
	}
	calls := append(want, make([][]model.Op, 3-len(want))...)
	wantScript(t, body, script.Read(append([]byte{0, 0, 0, 0}, body...)), script.Script{Frames: 1, Room: 1, Policy: "lru", Calls: calls, Picks: picks})
}

// P13.1, Read: all of it.
func TestRead(t *testing.T) {
	b := []byte{3, 23, 4, 99, 0x00, 5, 6, 0x18, 9, 200, 0x21, 10, 1, 0xf7, 19, 7, 0x3b, 1, 2, 0xff, 255}
	wantScript(t, b, script.Read(b), script.Script{
		Frames: 4, Room: 12, Policy: "pro",
		Calls: [][]model.Op{{come(), read(10), flushAll()}, {write(10, 200)}, {fetch(1)}},
		Picks: []int{0x00, 5, 6, 0x18, 9, 200, 0x21, 10, 1, 0xf7, 19, 7, 0x3b, 1, 2, 0xff, 255},
	})
}

// P13.1, Read: Frames, Room and Policy, by any byte; byte 3 says nothing.
func TestReadHead(t *testing.T) {
	names := []string{"lru", "lruk", "twoq", "arc", "pro"}
	for x := range 256 {
		want := script.Script{Frames: 1 + x%6, Room: 1, Policy: "lru", Calls: make([][]model.Op, 3)}
		wantScript(t, x, script.Read([]byte{byte(x), 0, 0, 0}), want)
		want = script.Script{Frames: 1, Room: 1 + x%12, Policy: "lru", Calls: make([][]model.Op, 3)}
		wantScript(t, x, script.Read([]byte{0, byte(x), 0, 0}), want)
		want = script.Script{Frames: 1, Room: 1, Policy: names[x%5], Calls: make([][]model.Op, 3)}
		wantScript(t, x, script.Read([]byte{0, 0, byte(x), 0}), want)
		want = script.Script{Frames: 1, Room: 1, Policy: "lru", Calls: make([][]model.Op, 3)}
		wantScript(t, x, script.Read([]byte{0, 0, 0, byte(x)}), want)
	}
}

// P13.1, Read: where there is no byte, it is 0.
func TestReadFewBytes(t *testing.T) {
	b := []byte{5, 11, 3, 8}
	wants := []script.Script{
		{Frames: 1, Room: 1, Policy: "lru"}, {Frames: 6, Room: 1, Policy: "lru"}, {Frames: 6, Room: 12, Policy: "lru"},
		{Frames: 6, Room: 12, Policy: "arc"}, {Frames: 6, Room: 12, Policy: "arc"},
	}
	for n, want := range wants {
		want.Calls = make([][]model.Op, 3)
		wantScript(t, n, script.Read(b[:n]), want)
	}
	wants[0].Calls = make([][]model.Op, 3)
	wantScript(t, "nil", script.Read(nil), wants[0])
}

// P13.1, Read: whose a call is, and of what Kind, by any byte.
func TestReadKinds(t *testing.T) {
	ops := [16]model.Op{
		come(), fetch(8), fetch(8), fetch(8), unpin(8), unpin(8), unpin(8), read(8),
		write(8, 77), write(8, 77), flush(8), flushAll(), remove(8), come(), fetch(8), unpin(8),
	}
	for x := range 256 {
		var calls [3][]model.Op
		calls[x>>4%3] = []model.Op{ops[x&15]}
		wantCalls(t, []byte{byte(x), 37, 77}, calls[:]...)
	}
}

// P13.1, Read: a call's Id and V, by any bytes, as far as its Kind has such.
func TestReadIdsAndValues(t *testing.T) {
	for x := range 256 {
		id, v := uint32(1+x%10), uint64(x)
		body := []byte{0, byte(x), byte(x), 1, byte(x), byte(x), 4, byte(x), byte(x), 7, byte(x), byte(x)}
		body = append(body, 9, byte(x), byte(x), 10, byte(x), byte(x), 11, byte(x), byte(x), 12, byte(x), byte(x))
		wantCalls(t, body, []model.Op{come(), fetch(id), unpin(id), read(id), write(id, v), flush(id), flushAll(), remove(id)})
	}
}

// P13.1, Read: one or two bytes at the end are no call, but picks.
func TestReadPartOfCall(t *testing.T) {
	wantCalls(t, []byte{0x17})
	wantCalls(t, []byte{0x17, 1})
	wantCalls(t, []byte{0x17, 1, 2}, nil, []model.Op{read(2)})
	wantCalls(t, []byte{0x17, 1, 2, 0x27}, nil, []model.Op{read(2)})
	wantCalls(t, []byte{0x17, 1, 2, 0x27, 3}, nil, []model.Op{read(2)})
	wantCalls(t, []byte{0x17, 1, 2, 0x27, 3, 4}, nil, []model.Op{read(2)}, []model.Op{read(4)})
}

// P13.1, Read: 60 calls at most, of all clients together; the bytes behind them are picks, too.
func TestReadSixty(t *testing.T) {
	for _, n := range []int{0, 1, 59, 60, 61, 62, 63, 64, 120, 180, 181, 1000} {
		for _, extra := range []int{0, 1, 2} {
			var alone, body []byte
			var of [3][]model.Op
			for i := range n {
				o := write(uint32(1+i%10), uint64(byte(i)))
				alone = append(alone, 0x18, byte(i), byte(i))
				body = append(body, byte(i%3<<4|8), byte(i), byte(i))
				if i < 60 {
					of[i%3] = append(of[i%3], o)
				}
			}
			var all []model.Op
			for i := range min(n, 60) {
				all = append(all, of[i%3][i/3])
			}
			wantCalls(t, append(alone, make([]byte, extra)...), nil, all)
			wantCalls(t, append(body, make([]byte, extra)...), of[:]...)
		}
	}
}

// plainRead tells of Read word by word.
func plainRead(b []byte) script.Script {
	byteAt := func(i int) int {
		if i < len(b) {
			return int(b[i])
		}
		return 0
	}
	s := script.Script{
		Frames: 1 + byteAt(0)%6,
		Room:   1 + byteAt(1)%12,
		Policy: []string{"lru", "lruk", "twoq", "arc", "pro"}[byteAt(2)%5],
		Calls:  make([][]model.Op, 3),
	}
	for i := 4; i < len(b); i++ {
		s.Picks = append(s.Picks, byteAt(i))
	}
	kinds := []int{0, 1, 1, 1, 2, 2, 2, 3, 4, 4, 5, 6, 7, 0, 1, 2}
	for n := 0; n < 60 && 4+3*n+2 < len(b); n++ {
		x, y, z := byteAt(4+3*n), byteAt(4+3*n+1), byteAt(4+3*n+2)
		o := model.Op{Kind: kinds[x%16], Id: uint32(1 + y%10), V: uint64(z)}
		if o.Kind == 0 || o.Kind == 6 {
			o.Id = 0
		}
		if o.Kind != 4 {
			o.V = 0
		}
		s.Calls[x/16%3] = append(s.Calls[x/16%3], o)
	}
	return s
}

// P13.1, Read: of any bytes.
func TestReadLikePlain(t *testing.T) {
	n := numbers(5)
	for range 3000 {
		b := n.bytes(n.below(250))
		wantScript(t, b, script.Read(b), plainRead(b))
	}
}

// P13.2: each call that bytes say has a Line.
func TestReadTellsLines(t *testing.T) {
	n := numbers(6)
	for range 300 {
		for _, l := range script.Read(n.bytes(184)).Calls {
			for _, o := range l {
				if back, e := script.Parse(script.Line(o)); back != o || e != api.OK {
					t.Fatalf("%v: the line %q, back %v, %v", o, script.Line(o), back, e)
				}
			}
		}
	}
}

// P13.3, Read: bytes are neither changed, nor kept, their spare room neither.
func TestReadKeepsNothing(t *testing.T) {
	n := numbers(7)
	for range 100 {
		b := n.bytes(200)
		was := slices.Clone(b)
		part := n.below(len(b))
		want := plainRead(b[:part])
		s := script.Read(b[:part])
		if !slices.Equal(b, was) {
			t.Fatalf("%v was changed: %v", was, b)
		}
		clear(b)
		wantScript(t, was[:part], s, want)
	}
}

// P13.3, and rule 4: a Script is new memory, and no two of its lists share any, spare room neither.
func TestReadIsNew(t *testing.T) {
	n := numbers(8)
	for range 100 {
		b := n.bytes(n.below(200))
		want := plainRead(b)
		s, other := script.Read(b), script.Read(b)
		for i := range s.Calls {
			l := append(s.Calls[i], write(99, 99))
			wantScript(t, b, s, want)
			clear(l[:cap(l)])
			s.Calls[i] = want.Calls[i]
		}
		wantScript(t, b, s, want)
		_ = append(s.Calls, []model.Op{write(99, 99)})
		_ = append(s.Picks, 99)
		clear(s.Calls)
		clear(s.Picks)
		wantScript(t, b, other, want)
		wantScript(t, b, script.Read(b), want)
	}
}

// P1: each call ends, and none panics, at all arguments.
func TestAnyArguments(t *testing.T) {
	sizes := []int{math.MinInt, -1, 0, 1, api.MaxPages, api.MaxPages + 1, math.MaxInt}
	ops := []model.Op{{}, {Kind: -1}, {Kind: 8}, {Kind: math.MinInt, Id: math.MaxUint32, V: math.MaxUint64}, {Kind: math.MaxInt}, fetch(0), write(math.MaxUint32, math.MaxUint64), remove(1)}
	for _, frames := range sizes {
		for _, room := range sizes {
			for _, name := range []string{"", "lru", "lruk", "twoq", "arc", "pro", "\xff\x00", "LRU"} {
				for _, calls := range [][][]model.Op{nil, {}, {nil}, {ops, nil, ops}, make([][]model.Op, 9)} {
					script.Play(script.Script{Frames: frames, Room: room, Policy: name, Calls: calls, Picks: []int{math.MinInt, -1, 0, 1, 2, math.MaxInt, 0, 0, 0}}).Rest()
				}
			}
		}
	}
	for _, o := range ops {
		script.Line(o)
		for _, e := range []api.Errno{math.MinInt, -1, 0, 1, 8, 9, math.MaxInt} {
			script.Told(o, model.Answer{Err: e, Id: math.MaxUint32, V: math.MaxUint64})
		}
	}
	if s := script.Play(script.Script{}); s != nil {
		t.Errorf("Play of nothing: %v", s)
	}
}

// P1, and rule 5: an answer hangs on what a call is given alone.
func TestAgain(t *testing.T) {
	n := numbers(9)
	for range 50 {
		b := n.bytes(n.below(200))
		f, g := script.Play(script.Read(b)), script.Play(script.Read(b))
		f.Rest()
		g.Rest()
		if !reflect.DeepEqual(script.Read(b), script.Read(b)) || !slices.Equal(f.Log(), g.Log()) {
			t.Fatalf("%v: not the same again", b)
		}
	}
}

// numbers are the same ones at each run.
type numbers uint64

func (n *numbers) below(m int) int {
	*n = *n*6364136223846793005 + 1442695040888963407
	return int(uint64(*n)>>33) % m
}

func (n *numbers) bytes(length int) []byte {
	b := make([]byte, length)
	for i := range b {
		b[i] = byte(n.below(256))
	}
	return b
}
