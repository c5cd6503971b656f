package script

import (
	"strconv"
	"strings"

	"hatcheck/api"
	"hatcheck/model"
)

// phrase is what the words of a kind of calls tell: its name, and behind that an Id, or an Id and a V, or nothing.
type phrase struct {
	name  string
	id, v bool
}

// phrases are those of all kinds.
var phrases = [...]phrase{
	model.New:      {name: "new"},
	model.Fetch:    {name: "fetch", id: true},
	model.Unpin:    {name: "unpin", id: true},
	model.Read:     {name: "read", id: true},
	model.Write:    {name: "write", id: true, v: true},
	model.Flush:    {name: "flush", id: true},
	model.FlushAll: {name: "flushall"},
	model.Delete:   {name: "delete", id: true},
}

// Line is a call in words; an empty text: it has something that its words don't tell.
func Line(o model.Op) string {
	if o.Kind < 0 || o.Kind >= len(phrases) {
		return ""
	}
	p := phrases[o.Kind]
	if o.Id != 0 && !p.id || o.V != 0 && !p.v {
		return ""
	}
	line := p.name
	if p.id {
		line = behind(line, uint64(o.Id))
	}
	if p.v {
		line = behind(line, o.V)
	}
	return line
}

// Parse is the call whose Line that is.
func Parse(s string) (model.Op, api.Errno) {
	name, numbers, _ := strings.Cut(s, " ")
	id, v, _ := strings.Cut(numbers, " ")
	o := model.Op{Kind: kindOf(name), Id: uint32(number(id, 32)), V: number(v, 64)}
	// Whatever was taken amiss so far, a number that is none, say, isn't in this call's Line as it is in s.
	if s == "" || Line(o) != s {
		return model.Op{}, api.ErrWord
	}
	return o, api.OK
}

// Told is a call's answer in words.
func Told(o model.Op, a model.Answer) string {
	word := a.Err.Word()
	switch {
	case a.Err != api.OK:
		return word
	case o.Kind == model.New:
		return behind(word, uint64(a.Id))
	case o.Kind == model.Read:
		return behind(word, a.V)
	}
	return word
}

// behind lays a number behind words.
func behind(words string, n uint64) string {
	return words + " " + strconv.FormatUint(n, 10)
}

// kindOf is the kind of calls of that name, or -1.
func kindOf(name string) int {
	for kind, p := range phrases {
		if p.name == name {
			return kind
		}
	}
	return -1
}

// number is what digits say, of so many bits; of other words it is some number, 0 of none.
func number(word string, bits int) uint64 {
	n, _ := strconv.ParseUint(word, 10, bits)
	return n
}
