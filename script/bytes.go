package script

import "hatcheck/model"

const (
	head    = 4  // how many bytes stand ahead of the calls
	triple  = 3  // how many bytes are a call
	most    = 60 // how many calls there are at most, of all clients together
	clients = 3
)

// kinds are those of the calls, by what their first bytes have in their lower halves.
var kinds = [16]int{
	model.New, model.Fetch, model.Fetch, model.Fetch,
	model.Unpin, model.Unpin, model.Unpin, model.Read,
	model.Write, model.Write, model.Flush, model.FlushAll,
	model.Delete, model.New, model.Fetch, model.Unpin,
}

// at is a byte's number; where there is none, it is 0.
func at(b []byte, i int) int {
	if i >= len(b) {
		return 0
	}
	return int(b[i])
}

// calls are a list a client.
func calls(body []byte) [][]model.Op {
	lists := make([][]model.Op, clients)
	for i := range min(len(body)/triple, most) {
		x, y, z := body[triple*i], body[triple*i+1], body[triple*i+2]
		client := x / 16 % clients
		lists[client] = append(lists[client], call(kinds[x%16], y, z))
	}
	return lists
}

// call has an Id and a V just where its words tell them, so that each call has a Line.
func call(kind int, y, z byte) model.Op {
	o := model.Op{Kind: kind}
	if phrases[kind].id {
		o.Id = 1 + uint32(y%10)
	}
	if phrases[kind].v {
		o.V = uint64(z)
	}
	return o
}

// picks are the bytes that calls are made of, and those that are left of them, too.
func picks(body []byte) []int {
	l := make([]int, len(body))
	for i, x := range body {
		l[i] = int(x)
	}
	return l
}
