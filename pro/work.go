package pro

// cool makes the hot hand work as long as too many are hot.
func (p *Pro) cool() {
	for p.hot > len(p.frames)-p.target {
		p.workHot()
	}
}

// workHot is the hot hand's work: it makes one entry cold, where one is hot.
func (p *Pro) workHot() {
	for p.hot > 0 {
		x := p.clock.hands[hotHand]
		switch e := &p.clock.entries[x]; {
		case e.hot && e.touched:
			e.touched = false
		case e.hot:
			e.hot = false
			p.hot--
			p.clock.move(hotHand)
			return
		case e.test:
			if p.fail(x) {
				continue // the hand isn't at it any more
			}
		}
		p.clock.move(hotHand)
	}
}

// workTest is the test hand's work: it makes one ghost go, where there is one.
func (p *Pro) workTest() {
	for len(p.ghosts) > 0 {
		x := p.clock.hands[testHand]
		if p.clock.entries[x].test && p.fail(x) {
			return
		}
		p.clock.move(testHand)
	}
}

// fail ends an entry's test, which it didn't pass, and says whether it was a ghost, that goes.
func (p *Pro) fail(x int) bool {
	p.target = max(p.target-1, 1)
	p.clock.entries[x].test = false
	if p.clock.entries[x].frame != none {
		return false
	}
	p.drop(x)
	return true
}

// turn brings a cold entry that was touched to the end: a hot one, if it was touched in time, else in test.
func (p *Pro) turn(x int) {
	e := &p.clock.entries[x]
	e.touched = false
	e.hot = e.test
	e.test = !e.hot
	if e.hot {
		p.hot++
	}
	p.clock.again(x)
	p.cool()
}

// send makes the page of the cold hand's entry go, and answers the frame that it had. It is a ghost's, if it was in test.
func (p *Pro) send(x int) int {
	e := &p.clock.entries[x]
	frame := e.frame
	if !e.test {
		p.Remove(frame)
		return frame
	}
	p.empty(frame)
	p.clock.move(coldHand)
	p.remember(x)
	for len(p.ghosts) > len(p.frames) {
		p.workTest()
	}
	return frame
}

// remember makes an entry that is in no frame any more a ghost.
func (p *Pro) remember(x int) {
	page := p.clock.entries[x].page
	// A page that lay in two frames, as none should, would have two ghosts else, of which one were never found again.
	if other, there := p.ghosts[page]; there {
		p.drop(other)
	}
	p.ghosts[page] = x
}

// firstEvictable is the frame of the first entry, from the cold hand's on, that may go, where there is one.
func (p *Pro) firstEvictable() int {
	x := p.clock.hands[coldHand]
	for !p.clock.entries[x].evictable {
		x = p.clock.next(x)
	}
	return p.clock.entries[x].frame
}

// empty takes an entry out of its frame.
func (p *Pro) empty(frame int) {
	// The next page in that frame isn't evictable at first, so this one's word doesn't stay.
	p.Set(frame, false)
	p.clock.entries[p.frames[frame]].frame = none
	p.frames[frame] = none
}

// drop makes an entry go that is in no frame.
func (p *Pro) drop(x int) {
	e := p.clock.entries[x]
	if e.hot {
		p.hot--
	}
	// That of a page may be another entry's, while this one was in a frame.
	if p.ghosts[e.page] == x {
		delete(p.ghosts, e.page)
	}
	p.clock.drop(x)
}
