package shell

import (
	"strconv"
	"strings"
)

const (
	longest  = 4       // how many words a command has at most
	greatest = 1000000 // what a number in a command is at most
)

// The words of a command that stand for others: any word, and numbers.
const (
	anyName = "NAME"
	first   = "N"
	second  = "M"
)

// args are what a line has at a command's NAME, N and M.
type args struct {
	name string
	n, m int
}

// command is a line that isn't a call's: its words, and what it does, as its reply.
type command struct {
	words string
	do    func(s *Shell, a args) string
}

// commands are all of them.
func commands() []command {
	return []command{
		{"open NAME N", (*Shell).open},
		{"fail read N M", (*Shell).failReads},
		{"fail write N M", (*Shell).failWrites},
		{"stop N", (*Shell).stop},
		{"crash", (*Shell).crash},
		{"pages", (*Shell).pages},
		{"disk N", (*Shell).value},
		{"frame N", (*Shell).frame},
		{"pins N", (*Shell).pins},
		{"counts", (*Shell).counts},
		{"scans", (*Shell).scans},
	}
}

// match says whether a line's words are that command, and of what.
func (c command) match(words []string) (args, bool) {
	want := strings.Split(c.words, " ")
	if len(words) != len(want) {
		return args{}, false
	}
	var a args
	for i, word := range words {
		if !a.take(want[i], word) {
			return args{}, false
		}
	}
	return a, true
}

// take says whether a line's word may stand where a command has want, and keeps what that tells.
func (a *args) take(want, word string) bool {
	ok := true
	switch want {
	case anyName:
		a.name = word
	case first:
		a.n, ok = number(word)
	case second:
		a.m, ok = number(word)
	default:
		ok = word == want
	}
	return ok
}

// number is what a word says, if it is a number's.
func number(word string) (int, bool) {
	n, e := strconv.Atoi(word)
	// Signs, and noughts ahead, are taken by Atoi, but don't come back.
	if e != nil || n < 0 || n > greatest || strconv.Itoa(n) != word {
		return 0, false
	}
	return n, true
}
