package ring_test

import (
	"math"
	"slices"
	"testing"

	"hatcheck/api"
	"hatcheck/ring"
)

func make1(t *testing.T, things, rows int) *ring.Rows {
	t.Helper()
	r, e := ring.New(things, rows)
	if r == nil || e != api.OK {
		t.Fatalf("New(%d, %d): %v, %v", things, rows, r, e)
	}
	return r
}

// laid has row 0 of things 3, 1, 4, and row 1 of 0, 2, and 5 in none.
func laid(t *testing.T) *ring.Rows {
	t.Helper()
	r := make1(t, 6, 3)
	for _, x := range []int{3, 1, 4} {
		want(t, r.Back(0, x), true)
	}
	for _, x := range []int{2, 0} {
		want(t, r.Front(1, x), true)
	}
	wantRow(t, r, 0, 3, 1, 4)
	wantRow(t, r, 1, 0, 2)
	wantRow(t, r, 2)
	wantNone(t, r, 5)
	return r
}

func want[T comparable](t *testing.T, got, what T) {
	t.Helper()
	if got != what {
		t.Errorf("got %v, want %v", got, what)
	}
}

// wantRow asks all that can be asked of a row, and of what is in it.
func wantRow(t *testing.T, r *ring.Rows, row int, things ...int) {
	t.Helper()
	if l := r.All(row); !slices.Equal(l, things) {
		t.Errorf("All(%d): %v, want %v", row, l, things)
	}
	want(t, r.Len(row), len(things))
	bounded := append(append([]int{-1}, things...), -1)
	want(t, r.First(row), bounded[1])
	want(t, r.Last(row), bounded[len(things)])
	for i, x := range things {
		want(t, r.In(x), row)
		want(t, r.Prev(x), bounded[i])
		want(t, r.Next(x), bounded[i+2])
	}
}

func wantNone(t *testing.T, r *ring.Rows, things ...int) {
	t.Helper()
	for _, x := range things {
		want(t, r.In(x), -1)
		want(t, r.Next(x), -1)
		want(t, r.Prev(x), -1)
		want(t, r.Out(x), false)
	}
}

// P2.1, New.
func TestNew(t *testing.T) {
	wrong := [][2]int{{-1, 1}, {200001, 1}, {1, 0}, {1, 17}, {0, -1}, {math.MinInt, 1}, {math.MaxInt, 16}, {5, math.MaxInt}, {5, math.MinInt}}
	for _, w := range wrong {
		if r, e := ring.New(w[0], w[1]); r != nil || e != api.ErrArg {
			t.Errorf("New(%d, %d): %v, %v; want nil, ErrArg", w[0], w[1], r, e)
		}
	}
	for _, m := range [][2]int{{0, 1}, {1, 1}, {0, 16}, {200000, 16}} {
		r := make1(t, m[0], m[1])
		for row := range m[1] {
			wantRow(t, r, row)
		}
		wantNone(t, r, -1, 0, m[0]-1, m[0])
		want(t, r.Back(m[1]-1, m[0]-1), m[0] > 0)
		want(t, r.Back(0, m[0]), false)
	}
}

// P2.1, Back, Front and Before, of things in none, in another row, and in that row.
func TestBack(t *testing.T) {
	r := laid(t)
	want(t, r.Back(0, 5), true)
	wantRow(t, r, 0, 3, 1, 4, 5)
	want(t, r.Back(0, 0), true)
	wantRow(t, r, 0, 3, 1, 4, 5, 0)
	wantRow(t, r, 1, 2)
	for _, x := range []int{4, 4, 3} {
		want(t, r.Back(0, x), true)
	}
	wantRow(t, r, 0, 1, 5, 0, 4, 3)
	want(t, r.Back(2, 2), true)
	wantRow(t, r, 1)
	wantRow(t, r, 2, 2)
	want(t, r.Back(2, 2), true)
	wantRow(t, r, 2, 2)
}

func TestFront(t *testing.T) {
	r := laid(t)
	want(t, r.Front(0, 5), true)
	wantRow(t, r, 0, 5, 3, 1, 4)
	want(t, r.Front(0, 2), true)
	wantRow(t, r, 0, 2, 5, 3, 1, 4)
	wantRow(t, r, 1, 0)
	for _, x := range []int{3, 3, 4} {
		want(t, r.Front(0, x), true)
	}
	wantRow(t, r, 0, 4, 3, 2, 5, 1)
	want(t, r.Front(2, 0), true)
	wantRow(t, r, 1)
	wantRow(t, r, 2, 0)
	want(t, r.Front(2, 0), true)
	wantRow(t, r, 2, 0)
}

func TestBefore(t *testing.T) {
	r := laid(t)
	want(t, r.Before(5, 1), true)
	wantRow(t, r, 0, 3, 5, 1, 4)
	want(t, r.Before(2, 3), true)
	wantRow(t, r, 0, 2, 3, 5, 1, 4)
	wantRow(t, r, 1, 0)
	want(t, r.Before(4, 2), true)
	wantRow(t, r, 0, 4, 2, 3, 5, 1)
	want(t, r.Before(4, 1), true)
	want(t, r.Before(5, 4), true) // where it stands, or nearly
	want(t, r.Before(5, 4), true)
	wantRow(t, r, 0, 2, 3, 5, 4, 1)
	want(t, r.Before(2, 0), true)
	wantRow(t, r, 0, 3, 5, 4, 1)
	wantRow(t, r, 1, 2, 0)
}

func TestBeforeExample(t *testing.T) {
	r := make1(t, 4, 1)
	want(t, r.Back(0, 3) && r.Back(0, 1) && r.Before(2, 1), true)
	wantRow(t, r, 0, 3, 2, 1)
}

// P2.1, Out.
func TestOut(t *testing.T) {
	r := laid(t)
	want(t, r.Out(1), true)
	wantRow(t, r, 0, 3, 4)
	wantNone(t, r, 1, 5)
	want(t, r.Out(3), true)
	wantRow(t, r, 0, 4)
	want(t, r.Out(4), true)
	wantRow(t, r, 0)
	wantNone(t, r, 1, 3, 4, 5)
	wantRow(t, r, 1, 0, 2)
	want(t, r.Back(0, 3) && r.Front(0, 1), true)
	wantRow(t, r, 0, 1, 3)
}

// P2.1: where there is no such row or thing, and where other is in none, or is x, nothing changes.
func TestFalse(t *testing.T) {
	r := laid(t)
	for _, row := range []int{-1, 3, 16, math.MinInt, math.MaxInt} {
		for _, x := range []int{1, 5} {
			want(t, r.Front(row, x), false)
			want(t, r.Back(row, x), false)
		}
		wantRow(t, r, row)
	}
	for _, x := range []int{-1, 6, 7, 8, 9, math.MinInt, math.MaxInt} {
		want(t, r.Front(0, x), false)
		want(t, r.Back(0, x), false)
		want(t, r.Before(x, 1), false)
		want(t, r.Before(1, x), false)
		want(t, r.Before(x, x), false)
		wantNone(t, r, x)
	}
	want(t, r.Before(1, 5), false)
	want(t, r.Before(1, 1), false)
	want(t, r.Before(5, 5), false)
	wantRow(t, r, 0, 3, 1, 4)
	wantRow(t, r, 1, 0, 2)
	wantRow(t, r, 2)
	wantNone(t, r, 5)
}

// P2.1, and P1 of this layer: nil Rows, and such as New didn't make.
func TestNilRows(t *testing.T) {
	for _, r := range []*ring.Rows{nil, {}} {
		for _, x := range []int{-1, 0, 1, math.MaxInt} {
			want(t, r.Front(x, 0), false)
			want(t, r.Front(0, x), false)
			want(t, r.Back(x, 0), false)
			want(t, r.Back(0, x), false)
			want(t, r.Before(x, 0), false)
			want(t, r.Before(0, x), false)
			wantNone(t, r, x)
			wantRow(t, r, x)
		}
	}
}

// P2.2.
func TestAllIsNew(t *testing.T) {
	r := laid(t)
	l := r.All(0)
	clear(l)
	_ = append(l, 9)
	wantRow(t, r, 0, 3, 1, 4)
	l = r.All(0)
	want(t, r.Out(1) && r.Back(0, 5), true)
	if !slices.Equal(l, []int{3, 1, 4}) {
		t.Errorf("an answer changed: %v", l)
	}
}

// A call that went through a row's things would take hours here.
func TestManyThings(t *testing.T) {
	const things = 200000
	r := make1(t, things, 2)
	for x := range things {
		want(t, r.Back(0, x), true)
	}
	for i := range 2000000 {
		x := i * 77773 % things
		other := things - 1 - x
		if !r.Before(x, other) || r.Next(x) != other || r.Prev(other) != x || r.In(x) != 0 {
			t.Fatal(i)
		}
		if !r.Out(x) || r.Len(0) != things-1 || !r.Back(0, x) || r.Last(0) != x || !r.Front(0, x) || r.First(0) != x {
			t.Fatal(i)
		}
	}
	want(t, len(r.All(0)), things)
}

// P2.1: rows of calls, held against lists.
func TestAgainstLists(t *testing.T) {
	n := numbers(1)
	for things := 0; things <= 8; things++ {
		for rows := 1; rows <= 4; rows++ {
			r := make1(t, things, rows)
			p := lists{things: things, rows: make([][]int, rows)}
			for i := range 400 {
				x, y := n.below(things+2)-1, n.below(max(things, rows)+2)-1
				if !alike(n.below(4), x, y, r, &p) {
					t.Fatalf("things %d, rows %d, call %d, of %d and %d: they answer unlike", things, rows, i, x, y)
				}
				for row, l := range p.rows {
					wantRow(t, r, row, l...)
				}
				for x := range things {
					want(t, r.In(x), p.in(x))
				}
			}
		}
	}
}

// alike does one call of both, and says whether they answer alike.
func alike(call, x, y int, r *ring.Rows, p *lists) bool {
	switch call {
	case 0:
		return r.Front(y, x) == p.front(y, x)
	case 1:
		return r.Back(y, x) == p.back(y, x)
	case 2:
		return r.Before(x, y) == p.before(x, y)
	}
	return r.Out(x) == p.out(x)
}

// lists are rows told as plainly as can be.
type lists struct {
	things int
	rows   [][]int
}

func (p *lists) in(x int) int {
	return slices.IndexFunc(p.rows, func(l []int) bool { return slices.Contains(l, x) })
}

func (p *lists) out(x int) bool {
	row := p.in(x)
	if row >= 0 {
		p.rows[row] = slices.DeleteFunc(p.rows[row], func(y int) bool { return y == x })
	}
	return row >= 0
}

func (p *lists) can(row, x int) bool {
	return row >= 0 && row < len(p.rows) && x >= 0 && x < p.things
}

func (p *lists) front(row, x int) bool {
	if !p.can(row, x) {
		return false
	}
	p.out(x)
	p.rows[row] = slices.Insert(p.rows[row], 0, x)
	return true
}

func (p *lists) back(row, x int) bool {
	if !p.can(row, x) {
		return false
	}
	p.out(x)
	p.rows[row] = append(p.rows[row], x)
	return true
}

func (p *lists) before(x, other int) bool {
	row := p.in(other)
	if !p.can(row, x) || x == other {
		return false
	}
	p.out(x)
	p.rows[row] = slices.Insert(p.rows[row], slices.Index(p.rows[row], other), x)
	return true
}

// numbers are the same ones at each run.
type numbers uint64

func (n *numbers) below(m int) int {
	*n = *n*6364136223846793005 + 1442695040888963407
	return int(uint64(*n)>>33) % m
}
