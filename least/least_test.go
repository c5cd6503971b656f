package least_test

import (
	"math"
	"testing"

	"hatcheck/least"
)

// The bounds about which a level more is needed, or a word more.
func bounds() []int {
	return []int{1, 2, 63, 64, 65, 128, 129, 4095, 4096, 4097, 65535, 65536, 262144, 262145}
}

func wantFirst(t *testing.T, s *least.Set, first, size int) {
	t.Helper()
	if x, n := s.First(), s.Len(); x != first || n != size {
		t.Errorf("First, Len: %d, %d; want %d, %d", x, n, first, size)
	}
}

func TestEmptyAndFull(t *testing.T) {
	for _, bound := range bounds() {
		s, f := least.Empty(bound), least.Full(bound)
		wantFirst(t, &s, -1, 0)
		wantFirst(t, &f, 0, bound)
		for _, x := range []int{0, bound / 2, bound - 1} {
			if s.Has(x) || !f.Has(x) {
				t.Errorf("bound %d: Has(%d): %v, %v; want false, true", bound, x, s.Has(x), f.Has(x))
			}
		}
	}
}

func TestLeastGoesFirst(t *testing.T) {
	for _, bound := range bounds() {
		s := least.Full(bound)
		for x := range bound {
			if s.First() != x || s.Len() != bound-x {
				t.Fatalf("bound %d: First, Len: %d, %d; want %d, %d", bound, s.First(), s.Len(), x, bound-x)
			}
			s.Drop(x)
		}
		wantFirst(t, &s, -1, 0)
	}
}

func TestAddFromAbove(t *testing.T) {
	for _, bound := range bounds() {
		s := least.Empty(bound)
		for x := bound - 1; x >= 0; x -= 1 + bound/1000 {
			s.Add(x)
			if s.First() != x || !s.Has(x) {
				t.Fatalf("bound %d: First: %d; want %d", bound, s.First(), x)
			}
		}
	}
}

func TestSayingItAgain(t *testing.T) {
	s := least.Empty(100)
	for range 2 {
		s.Add(70)
		s.Add(7)
		wantFirst(t, &s, 7, 2)
	}
	for range 2 {
		s.Drop(7)
		wantFirst(t, &s, 70, 1)
	}
}

// Numbers that the bound leaves out aren't there, and sets that nobody made, or of no numbers, have none.
func TestOutside(t *testing.T) {
	for _, s := range []least.Set{{}, least.Empty(0), least.Full(0), least.Empty(-1), least.Full(math.MinInt), least.Empty(64), least.Empty(65)} {
		for _, x := range []int{-1, -64, 65, 128, math.MaxInt, math.MinInt} {
			s.Add(x)
			s.Drop(x)
			if s.Has(x) {
				t.Errorf("Has(%d)", x)
			}
		}
		wantFirst(t, &s, -1, 0)
	}
	f := least.Full(64)
	f.Drop(64)
	f.Drop(-1)
	wantFirst(t, &f, 0, 64)
}

func TestAgainstPlain(t *testing.T) {
	for _, bound := range []int{1, 5, 64, 65, 130, 4100} {
		s, plain, size := least.Empty(bound), make([]bool, bound), 0
		n := uint64(bound)
		for i := range 20000 {
			n = n*6364136223846793005 + 1442695040888963407
			x, add := int(n>>33)%bound, n>>20&3 == 0
			switch {
			case add && !plain[x]:
				size++
				fallthrough
			case add:
				s.Add(x)
			case plain[x]:
				size--
				fallthrough
			default:
				s.Drop(x)
			}
			plain[x] = add
			if first := firstOf(plain); s.First() != first || s.Len() != size || s.Has(x) != add {
				t.Fatalf("bound %d, step %d: First, Len: %d, %d; want %d, %d", bound, i, s.First(), s.Len(), first, size)
			}
		}
	}
}

func firstOf(there []bool) int {
	for x, is := range there {
		if is {
			return x
		}
	}
	return -1
}
