package crash

import (
	"maps"
	"slices"

	"hatcheck/api"
	"hatcheck/model"
)

// pages are those that there are, as calls and their answers tell.
type pages struct {
	values  map[uint32][]uint64 // by id: what a page may hold on the disk; the last one is what it holds in its frame
	written []uint32            // all that may hold more than one; some of them may be gone, or safe again
}

// learn is told a call, and its answer.
func (p *pages) learn(o model.Op, a model.Answer) {
	if a.Err != api.OK {
		return
	}
	switch o.Kind {
	case model.New:
		p.values[a.Id] = []uint64{0}
	case model.Write:
		p.write(o.Id, o.V)
	case model.Flush:
		p.settle(o.Id)
	case model.FlushAll:
		p.settleAll()
	case model.Delete:
		delete(p.values, o.Id)
	}
}

// write makes a page hold v in its frame; whether the disk does, is open from now on.
func (p *pages) write(id uint32, v uint64) {
	values, there := p.values[id]
	if !there {
		return
	}
	if len(values) == 1 {
		p.written = append(p.written, id)
	}
	p.values[id] = append(values, v)
}

// settle makes the disk hold what a page holds in its frame.
func (p *pages) settle(id uint32) {
	if values := p.values[id]; len(values) > 1 {
		p.values[id] = []uint64{values[len(values)-1]}
	}
}

// settleAll settles all pages. Only such as were written since the last time need it, so that many FlushAlls of many pages don't take long.
func (p *pages) settleAll() {
	for _, id := range p.written {
		p.settle(id)
	}
	p.written = nil
}

// claims are what is known by now, rising by the pages' ids.
func (p *pages) claims() []Claim {
	l := make([]Claim, 0, len(p.values))
	for _, id := range slices.Sorted(maps.Keys(p.values)) {
		l = append(l, Claim{Id: id, Values: p.values[id]})
	}
	return l
}
