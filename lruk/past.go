package lruk

import "hatcheck/api"

// past is when a page was touched. That of a page without one is all 0.
type past struct {
	last  int64           // its last touch
	times [api.MaxK]int64 // of touches that weren't near to one another, the youngest first; 0: there was none
}

// touched is a past behind one touch more, of which k times are told.
func (p past) touched(now, near int64, k int) past {
	if p.last != 0 && now-p.last <= near {
		p.last = now
		return p
	}
	// Touches that are near count as one, and so the time that they took doesn't count.
	took := p.last - p.times[0]
	for i := k - 1; i > 0; i-- {
		p.times[i] = 0
		if ahead := p.times[i-1]; ahead != 0 {
			p.times[i] = ahead + took
		}
	}
	p.times[0] = now
	p.last = now
	return p
}
