// Package least has sets of small numbers, whose least one is told in a few steps.
package least

import "math/bits"

// word is how many bits there are in one of a level's words.
const word = 64

// Set has some of the numbers from 0 to its bound, less one.
type Set struct {
	bound  int
	size   int
	levels [][]uint64 // a bit of the first one: a number is there; of each other one: a word of the one ahead isn't 0; the last one is of one word
}

// Empty is a set without numbers, for such as are below the bound.
func Empty(bound int) Set {
	s := Set{bound: bound}
	for words := bound; words > 0; {
		words = (words + word - 1) / word
		s.levels = append(s.levels, make([]uint64, words))
		if words == 1 {
			break
		}
	}
	return s
}

// Full is a set of all the numbers below the bound.
func Full(bound int) Set {
	s := Empty(bound)
	for x := range bound {
		s.Add(x)
	}
	return s
}

// Has says whether a number is there.
func (s *Set) Has(x int) bool {
	return x >= 0 && x < s.bound && s.levels[0][x/word]>>(x%word)&1 == 1
}

// Add makes a number be there; one that the bound leaves out never is.
func (s *Set) Add(x int) {
	if x < 0 || x >= s.bound || s.Has(x) {
		return
	}
	s.size++
	for _, level := range s.levels {
		level[x/word] |= 1 << (x % word)
		x /= word
	}
}

// Drop makes a number be there no more.
func (s *Set) Drop(x int) {
	if !s.Has(x) {
		return
	}
	s.size--
	for _, level := range s.levels {
		level[x/word] &^= 1 << (x % word)
		if level[x/word] != 0 {
			return
		}
		x /= word
	}
}

// First is the least number that is there, or -1.
func (s *Set) First() int {
	if s.size == 0 {
		return -1
	}
	x := 0
	for i := len(s.levels) - 1; i >= 0; i-- {
		x = x*word + bits.TrailingZeros64(s.levels[i][x])
	}
	return x
}

// Len is how many numbers are there.
func (s *Set) Len() int { return s.size }
