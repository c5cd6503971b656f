package shell

import (
	"strconv"
	"strings"

	"hatcheck/api"
	"hatcheck/crash"
	"hatcheck/pool"
)

// open makes a pool of the disk; the one that was stays, if there can be none.
func (s *Shell) open(a args) string {
	p, e := pool.New(s.disk, a.n, crash.Policy(a.name, a.n))
	if e == api.OK {
		s.pool = p
	}
	return e.Word()
}

func (s *Shell) failReads(a args) string { return s.fail(a, false) }

func (s *Shell) failWrites(a args) string { return s.fail(a, true) }

// fail makes the next reads, or writes, of a page fail.
func (s *Shell) fail(a args, write bool) string {
	s.disk.Fail(uint32(a.n), write, a.m)
	return api.OK.Word()
}

// stop makes the disk stop behind so many accesses more.
func (s *Shell) stop(a args) string {
	s.disk.Stop(a.n)
	return api.OK.Word()
}

// crash leaves the disk's pages, and nothing else.
func (s *Shell) crash(args) string {
	s.disk, s.pool = s.disk.Copy(), nil
	return api.OK.Word()
}

// pages are the ids of the disk's pages.
func (s *Shell) pages(args) string {
	var words []string
	for _, id := range s.disk.Pages() {
		words = append(words, strconv.FormatUint(uint64(id), 10))
	}
	if len(words) == 0 {
		return noPages
	}
	return strings.Join(words, " ")
}

// value is what a page holds on the disk.
func (s *Shell) value(a args) string {
	// To read the disk itself would count, and might fail.
	v, e := s.disk.Copy().Read(uint32(a.n))
	if e != api.OK {
		return e.Word()
	}
	return strconv.FormatUint(v, 10)
}

// frame is where a page is.
func (s *Shell) frame(a args) string {
	return s.ask(func(p *pool.Pool) string { return strconv.Itoa(p.Frame(uint32(a.n))) })
}

// pins is how often a page is pinned.
func (s *Shell) pins(a args) string {
	return s.ask(func(p *pool.Pool) string { return strconv.Itoa(p.Pins(uint32(a.n))) })
}

// counts are how many reads, and writes, of the disk were OK.
func (s *Shell) counts(args) string {
	return strconv.Itoa(s.disk.Reads()) + " " + strconv.Itoa(s.disk.Writes())
}

// scans is how often the pool was advised no good.
func (s *Shell) scans(args) string {
	return s.ask(func(p *pool.Pool) string { return strconv.Itoa(p.Scans()) })
}
