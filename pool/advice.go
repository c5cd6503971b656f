package pool

import (
	"slices"

	"hatcheck/lru"
)

// advice says what a list says.
type advice struct {
	left []int // what wasn't said yet
}

// Advise is a Replacer whose Victims are a list's numbers, one behind the other, whatever they are.
func Advise(list []int) lru.Replacer { return &advice{left: slices.Clone(list)} }

// Miss, Access, Set and Remove change nothing: the list is all there is to say.
func (a *advice) Miss(page uint32) {}

func (a *advice) Access(frame int, page uint32) {}

func (a *advice) Set(frame int, evictable bool) {}

func (a *advice) Remove(frame int) {}

// Victim is the list's next number.
func (a *advice) Victim(page uint32) (int, bool) {
	if len(a.left) == 0 {
		return 0, false
	}
	frame := a.left[0]
	a.left = a.left[1:]
	if frame < 0 {
		return 0, false
	}
	return frame, true
}

// Size is 0, since nothing is known of frames here.
func (a *advice) Size() int { return 0 }

// Ghosts are none.
func (a *advice) Ghosts() []uint32 { return nil }

// tell tells the Replacer something. The pool trusts none: one that panics may do no harm but to its own advice.
func (p *Pool) tell(call func(r lru.Replacer)) {
	defer func() { _ = recover() }()
	call(p.replacer)
}

// ask is the Replacer's victim; one that panics says none.
func (p *Pool) ask(id uint32) (frame int, ok bool) {
	defer func() { _ = recover() }()
	return p.replacer.Victim(id)
}
