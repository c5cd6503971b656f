package crash

import (
	"hatcheck/api"
	"hatcheck/arc"
	"hatcheck/lru"
	"hatcheck/lruk"
	"hatcheck/pro"
	"hatcheck/twoq"
)

// The policies' names.
const (
	nameLRU  = "lru"
	nameLRUK = "lruk"
	nameTwoQ = "twoq"
	nameARC  = "arc"
	namePro  = "pro"
)

// Policies are the names of those who say which page goes.
func Policies() []string { return []string{nameLRU, nameLRUK, nameTwoQ, nameARC, namePro} }

// Policy is one of them, of so many frames, or nil.
func Policy(name string, frames int) lru.Replacer {
	var r lru.Replacer
	var e api.Errno
	switch name {
	case nameLRU:
		r, e = lru.New(frames)
	case nameLRUK:
		r, e = lruk.New(frames, 2, 1, frames)
	case nameTwoQ:
		r, e = twoq.New(frames, frames/4, frames/2)
	case nameARC:
		r, e = arc.New(frames)
	case namePro:
		r, e = pro.New(frames)
	}
	// With an error r has a nil pointer in it, and so isn't nil itself.
	if e != api.OK {
		return nil
	}
	return r
}
