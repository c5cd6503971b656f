package queue_test

import (
	"maps"
	"math"
	"slices"
	"testing"

	"hatcheck/queue"
)

type key = queue.Key

func wantLeast(t *testing.T, q *queue.Queue, x int, ok bool) {
	t.Helper()
	if y, is := q.Least(); y != x || is != ok {
		t.Errorf("Least: %d, %v; want %d, %v", y, is, x, ok)
	}
}

func wantOf(t *testing.T, q *queue.Queue, x int, k key, ok bool) {
	t.Helper()
	if l, is := q.Of(x); l != k || is != ok {
		t.Errorf("Of(%d): %v, %v; want %v, %v", x, l, is, k, ok)
	}
}

func wantDrop(t *testing.T, q *queue.Queue, x int, ok bool) {
	t.Helper()
	if is := q.Drop(x); is != ok {
		t.Errorf("Drop(%d): %v; want %v", x, is, ok)
	}
}

// wantAll asks which things there are, and in what order; Least must tell the first of them.
func wantAll(t *testing.T, q *queue.Queue, things ...int) {
	t.Helper()
	if l := q.All(); !slices.Equal(l, things) {
		t.Errorf("All: %v; want %v", l, things)
	}
	if q.Len() != len(things) {
		t.Errorf("Len: %d; want %d", q.Len(), len(things))
	}
	if len(things) == 0 {
		wantLeast(t, q, 0, false)
	} else {
		wantLeast(t, q, things[0], true)
	}
}

func filled(keys map[int]key) *queue.Queue {
	q := queue.New()
	for x, k := range keys {
		q.Put(x, k)
	}
	return q
}

// P3.1.
func TestNewIsEmpty(t *testing.T) {
	q := queue.New()
	wantAll(t, q)
	wantOf(t, q, 0, key{}, false)
	wantDrop(t, q, 0, false)
	wantAll(t, q)
}

// P3.1: the chapter's example.
func TestExample(t *testing.T) {
	wantLeast(t, filled(map[int]key{1: {2, 0}, 2: {1, 9}, 3: {1, 9}}), 2, true)
}

// P3.1: A counts first, then B, then the thing, each as a number below 0, too.
func TestOrder(t *testing.T) {
	wantAll(t, filled(map[int]key{1: {1, 5}, 2: {0, 9}, 3: {-1, 7}, 4: {2, -9}}), 3, 2, 1, 4)
	wantAll(t, filled(map[int]key{1: {3, 5}, 2: {3, -4}, 3: {3, 0}, 4: {2, 6}}), 4, 2, 3, 1)
	wantAll(t, filled(map[int]key{5: {1, 1}, -5: {1, 1}, 0: {1, 1}, math.MaxInt: {1, 1}, math.MinInt: {1, 1}}), math.MinInt, -5, 0, 5, math.MaxInt)
	const least, most = math.MinInt64, math.MaxInt64
	wantAll(t, filled(map[int]key{1: {most, least}, 2: {least, most}, 3: {0, 0}, 4: {least, least}, 5: {most, most}}), 4, 2, 3, 1, 5)
}

// P3.1: Put of a thing that is there: its key alone changes, to a less one, a greater one, or the same.
func TestPutAgain(t *testing.T) {
	q := filled(map[int]key{1: {A: 10}, 2: {A: 20}, 3: {A: 30}, 4: {A: 40}})
	q.Put(4, key{A: 5})
	wantAll(t, q, 4, 1, 2, 3)
	q.Put(4, key{A: 25})
	wantAll(t, q, 1, 2, 4, 3)
	q.Put(1, key{A: 25})
	wantAll(t, q, 2, 1, 4, 3)
	q.Put(2, key{A: 20})
	wantAll(t, q, 2, 1, 4, 3)
	q.Put(2, key{A: 30, B: 1})
	wantAll(t, q, 1, 4, 3, 2)
	wantOf(t, q, 1, key{A: 25}, true)
	wantOf(t, q, 2, key{A: 30, B: 1}, true)
	wantOf(t, q, 3, key{A: 30}, true)
	wantOf(t, q, 4, key{A: 25}, true)
}

// P3.1: Drop of the first thing, of a middle one and of the last, and of one that isn't there.
func TestDrop(t *testing.T) {
	q := filled(map[int]key{1: {A: 1}, 2: {A: 2}, 3: {A: 3}, 4: {A: 4}, 5: {A: 5}})
	for _, x := range []int{0, 6, -1, math.MinInt, math.MaxInt} {
		wantDrop(t, q, x, false)
		wantOf(t, q, x, key{}, false)
	}
	wantAll(t, q, 1, 2, 3, 4, 5)
	wantDrop(t, q, 1, true)
	wantDrop(t, q, 1, false)
	wantOf(t, q, 1, key{}, false)
	wantAll(t, q, 2, 3, 4, 5)
	wantDrop(t, q, 3, true)
	wantAll(t, q, 2, 4, 5)
	wantDrop(t, q, 5, true)
	wantAll(t, q, 2, 4)
	q.Put(1, key{A: 3})
	wantAll(t, q, 2, 1, 4)
	for _, x := range []int{4, 2, 1} {
		wantDrop(t, q, x, true)
	}
	wantAll(t, q)
	q.Put(0, key{})
	wantAll(t, q, 0)
	wantOf(t, q, 0, key{}, true)
}

// P3.2.
func TestAllIsNew(t *testing.T) {
	q := filled(map[int]key{1: {A: 1}, 2: {A: 2}, 3: {A: 3}})
	l := q.All()
	clear(l)
	_ = append(l, 9)
	wantAll(t, q, 1, 2, 3)
	l = q.All()
	q.Drop(1)
	q.Put(3, key{A: -1})
	if !slices.Equal(l, []int{1, 2, 3}) {
		t.Errorf("an answer changed: %v", l)
	}
}

// P3.2: one Queue has nothing of another one.
func TestQueuesAreApart(t *testing.T) {
	q, r := queue.New(), queue.New()
	q.Put(1, key{A: 1})
	wantAll(t, r)
	r.Put(1, key{A: 2})
	wantOf(t, q, 1, key{A: 1}, true)
	wantDrop(t, r, 1, true)
	wantAll(t, q, 1)
}

// P3.1, and P1 of this layer: a nil Queue, and one that New didn't make, which is empty.
func TestNilQueue(t *testing.T) {
	for _, q := range []*queue.Queue{nil, {}} {
		for _, x := range []int{0, 1, -1, math.MinInt, math.MaxInt} {
			wantDrop(t, q, x, false)
			wantOf(t, q, x, key{}, false)
		}
		wantAll(t, q)
	}
	var q *queue.Queue
	q.Put(1, key{A: 1})
	wantAll(t, q)
	wantOf(t, q, 1, key{}, false)
	q = new(queue.Queue)
	q.Put(1, key{A: 1})
	wantAll(t, q, 1)
}

// A Put, Drop or Least that went through all things would take hours here.
func TestManyThings(t *testing.T) {
	const things = 200000
	q := queue.New()
	for i := range things {
		q.Put(i*77773%things, key{A: int64(i % 7), B: int64(things - i)})
	}
	for i := range 1000000 {
		x, ok := q.Least()
		if !ok || !q.Drop(x) {
			t.Fatal(i)
		}
		q.Put(x, key{A: 7, B: int64(i)})
		q.Put(i*77773%things, key{A: 8, B: int64(-i)})
	}
	if q.Len() != things {
		t.Error(q.Len())
	}
}

// P3.1: rows of calls, held against a map.
func TestAgainstMap(t *testing.T) {
	n := numbers(1)
	for _, things := range []int{1, 2, 3, 5, 9, 20, 70} {
		for _, keys := range []int{1, 2, 4, 50} {
			q, p := queue.New(), plain{}
			for i := range 800 {
				// Now Drops are more often, now Puts, so that it is nearly empty at times and nearly full at others.
				x := n.below(things) - things/2
				if n.below(100) < 35+30*(i/200%2) {
					k := key{A: int64(n.below(keys) - keys/2), B: int64(n.below(keys))}
					q.Put(x, k)
					p[x] = k
				} else {
					_, there := p[x]
					delete(p, x)
					wantDrop(t, q, x, there)
				}
				wantAll(t, q, p.all()...)
				k, there := p[x]
				wantOf(t, q, x, k, there)
				if t.Failed() {
					t.Fatalf("%d things, %d keys, call %d", things, keys, i)
				}
			}
		}
	}
}

// plain is a queue told as plainly as can be.
type plain map[int]key

func (p plain) all() []int {
	all := slices.Sorted(maps.Keys(p))
	// Stable, so that of the same key the least thing stays ahead.
	slices.SortStableFunc(all, func(x, y int) int {
		k, l := p[x], p[y]
		switch {
		case k == l:
			return 0
		case k.A < l.A || k.A == l.A && k.B < l.B:
			return -1
		}
		return 1
	})
	return all
}

// numbers are the same ones at each run.
type numbers uint64

func (n *numbers) below(m int) int {
	*n = *n*6364136223846793005 + 1442695040888963407
	return int(uint64(*n)>>33) % m
}
