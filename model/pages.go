package model

import "hatcheck/api"

func (m *Model) come() Answer {
	first := m.free.First()
	switch {
	case m.pinned == m.frames:
		return Answer{Err: api.ErrNoFrame}
	case first < 0:
		return Answer{Err: api.ErrFull}
	}
	m.free.Drop(first)
	id := uint32(first + 1)
	m.pages[id] = page{pins: 1}
	m.pinned++
	return Answer{Id: id}
}

func (m *Model) fetch(id uint32) api.Errno {
	p, there := m.pages[id]
	switch {
	case !there:
		return api.ErrUnknown
	case p.pins == 0 && m.pinned == m.frames:
		return api.ErrNoFrame
	case p.pins == 0:
		m.pinned++
	}
	p.pins++
	m.pages[id] = p
	return api.OK
}

func (m *Model) unpin(id uint32) api.Errno {
	p, e := m.held(id)
	if e != api.OK {
		return e
	}
	p.pins--
	m.pages[id] = p
	if p.pins == 0 {
		m.pinned--
	}
	return api.OK
}

func (m *Model) read(id uint32) Answer {
	p, e := m.held(id)
	return Answer{Err: e, V: p.value}
}

func (m *Model) write(id uint32, v uint64) api.Errno {
	p, e := m.held(id)
	if e != api.OK {
		return e
	}
	p.value = v
	m.pages[id] = p
	return api.OK
}

func (m *Model) remove(id uint32) api.Errno {
	p, there := m.pages[id]
	switch {
	case !there:
		return api.ErrUnknown
	case p.pins > 0:
		return api.ErrPinned
	}
	delete(m.pages, id)
	m.free.Add(int(id) - 1)
	return api.OK
}

// known says whether there is a page.
func (m *Model) known(id uint32) api.Errno {
	if _, there := m.pages[id]; !there {
		return api.ErrUnknown
	}
	return api.OK
}

// held is a page that is pinned.
func (m *Model) held(id uint32) (page, api.Errno) {
	p, there := m.pages[id]
	switch {
	case !there:
		return page{}, api.ErrUnknown
	case p.pins == 0:
		return page{}, api.ErrNotPinned
	}
	return p, api.OK
}
