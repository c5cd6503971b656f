package shell_test

import (
	"slices"
	"strconv"
	"strings"
	"testing"

	"hatcheck/shell"
)

// policies are the names that open takes.
var policies = []string{"lru", "lruk", "twoq", "arc", "pro"}

// talk does lines of a Shell, and holds the replies against what they are to be: "line: reply", one behind the other.
func talk(t *testing.T, s *shell.Shell, pairs ...string) {
	t.Helper()
	for i, pair := range pairs {
		at := strings.LastIndex(pair, ": ")
		line, want := pair[:at], pair[at+2:]
		if got := s.Do(line); got != want {
			t.Errorf("line %d, %q: %q; want %q", i, line, got, want)
		}
	}
}

// P14.1: the example of the chapter, and of the whole.
func TestExample(t *testing.T) {
	got := shell.Lines([]string{"open lru 1", "new", "new", "unpin 1", "new"})
	if want := []string{"ok", "ok 1", "noframe", "ok", "ok 2"}; !slices.Equal(got, want) {
		t.Errorf("%q; want %q", got, want)
	}
}

// P14.1, open: every policy's name, and from 1 to 65535 frames; nothing else.
func TestOpen(t *testing.T) {
	for _, name := range policies {
		s := shell.New()
		talk(t, s, "open "+name+" 0: argument", "new: no pool", "scans: no pool")
		talk(t, s, "open "+name+" 65536: argument", "open "+name+" 1000000: argument", "new: no pool")
		talk(t, s, "open "+name+" 65535: ok", "new: ok 1", "open "+name+" 1: ok", "new: ok 2", "new: noframe")
	}
	for _, name := range []string{"", "LRU", "Lru", "lru2", "lr", "fifo", "clock", "2q", "N", "NAME", "1", "open", "lru\t", "\xff", "lru\x00"} {
		talk(t, shell.New(), "open "+name+" 3: argument", "new: no pool")
	}
}

// P14.1, open: of as many frames as it says.
func TestOpenFrames(t *testing.T) {
	for _, frames := range []int{1, 2, 3, 7, 50, 99} {
		s := shell.New()
		talk(t, s, "open pro "+strconv.Itoa(frames)+": ok")
		for i := range frames {
			talk(t, s, "new: ok "+strconv.Itoa(i+1))
		}
		talk(t, s, "new: noframe", "frame "+strconv.Itoa(frames)+": "+strconv.Itoa(frames-1))
	}
}

// P14.1, open: where that may not be, the pool that was stays, as it was.
func TestOpenInVain(t *testing.T) {
	s := shell.New()
	talk(t, s, "open lru 2: ok", "new: ok 1", "write 1 5: ok")
	for _, line := range []string{"open lru 0", "open fifo 2", "open  2", "open lru 65536", "open lru 1000000"} {
		talk(t, s, line+": argument", "read 1: ok 5", "pins 1: 1", "frame 1: 0", "disk 1: 0")
	}
	for _, line := range []string{"open lru 1000001", "open lru", "open lru x", "open"} {
		talk(t, s, line+": what", "read 1: ok 5", "pins 1: 1", "frame 1: 0", "disk 1: 0")
	}
}

// P14.1, open: another pool of the same disk, with its counts, and what is to fail; what the pool that was didn't write is gone.
func TestOpenAgain(t *testing.T) {
	s := shell.New()
	talk(t, s, "open lru 2: ok", "new: ok 1", "new: ok 2", "write 1 5: ok", "flush 1: ok", "write 1 6: ok", "fail read 2 1: ok", "fail write 1 1: ok")
	talk(t, s, "open arc 1: ok", "pages: 1 2", "counts: 0 1", "pins 1: 0", "frame 1: -1", "scans: 0", "read 1: notpinned")
	talk(t, s, "fetch 2: disk", "fetch 1: ok", "read 1: ok 5", "fetch 2: noframe", "write 1 7: ok", "flush 1: disk", "flush 1: ok", "disk 1: 7", "counts: 1 2")
	talk(t, s, "stop 0: ok", "open lru 2: ok", "fetch 1: disk", "counts: 1 2")
}

// P14.1: the disk has room for 100 pages, of which the least ids that none has come first.
func TestRoom(t *testing.T) {
	s := shell.New()
	talk(t, s, "open twoq 200: ok")
	var ids []string
	for i := range 100 {
		ids = append(ids, strconv.Itoa(i+1))
		talk(t, s, "new: ok "+ids[i], "pages: "+strings.Join(ids, " "))
	}
	talk(t, s, "new: full", "unpin 40: ok", "delete 40: ok", "pages: "+strings.Join(slices.Delete(slices.Clone(ids), 39, 40), " "))
	talk(t, s, "new: ok 40", "new: full", "crash: ok", "pages: "+strings.Join(ids, " "), "open lru 2: ok", "new: full")
}

// P14.1: each call's Line, with each of its answers.
func TestCalls(t *testing.T) {
	s := shell.New()
	talk(t, s, "open lru 1: ok")
	talk(t, s, "new: ok 1", "new: noframe", "write 1 18446744073709551615: ok", "read 1: ok 18446744073709551615", "write 1 0: ok", "read 1: ok 0")
	talk(t, s, "fetch 1: ok", "pins 1: 2", "unpin 1: ok", "delete 1: pinned", "unpin 1: ok", "unpin 1: notpinned", "read 1: notpinned", "write 1 3: notpinned")
	talk(t, s, "flush 1: ok", "flushall: ok", "new: ok 2", "fetch 1: noframe", "flush 1: ok", "delete 1: ok")
	for _, id := range []string{"0", "1", "3", "100", "101", "1000001", "4294967295"} {
		talk(t, s, "fetch "+id+": unknown", "unpin "+id+": unknown", "read "+id+": unknown", "write "+id+" 1: unknown", "flush "+id+": unknown", "delete "+id+": unknown")
	}
	talk(t, s, "unpin 2: ok", "delete 2: ok", "pages: none", "new: ok 1", "read 1: ok 0")
}

// P14.1, fail: the next reads, or writes, of that page alone; as many as it says, instead of however many were.
func TestFail(t *testing.T) {
	s := shell.New()
	talk(t, s, "open lru 1: ok", "new: ok 1", "write 1 4: ok", "unpin 1: ok", "new: ok 2", "unpin 2: ok")
	talk(t, s, "fail read 1 2: ok", "counts: 0 1", "fetch 1: disk", "fetch 2: ok", "unpin 2: ok", "fetch 1: disk", "fetch 1: ok", "read 1: ok 4", "counts: 2 1")
	talk(t, s, "write 1 5: ok", "fail write 1 3: ok", "flush 1: disk", "disk 1: 4", "fail write 1 1: ok", "flushall: disk", "flush 1: ok", "disk 1: 5", "counts: 2 2")
	talk(t, s, "write 1 6: ok", "fail write 1 1000000: ok", "flush 1: disk", "fail write 1 0: ok", "flush 1: ok", "disk 1: 6")
	talk(t, s, "write 1 7: ok", "unpin 1: ok", "fail write 1 1: ok", "fetch 2: disk", "new: ok 3")
	talk(t, s, "disk 1: 7", "unpin 3: ok")
	// A read that is to fail is none of the writes, and the other way.
	talk(t, s, "fail read 2 1: ok", "fail write 3 1: ok", "fetch 3: ok", "write 3 1: ok", "flush 3: disk", "flush 3: ok", "unpin 3: ok", "fetch 2: disk", "fetch 2: ok", "write 2 1: ok", "flush 2: ok")
	// Also of a page that there isn't.
	talk(t, s, "fail write 0 5: ok", "fail read 101 5: ok", "fail read 1000000 1000000: ok", "fail write 4 1: ok", "unpin 2: ok", "new: ok 4", "write 4 1: ok", "flush 4: disk", "flush 4: ok")
}

// P14.1, stop: behind so many accesses, of reads and writes together.
func TestStop(t *testing.T) {
	s := shell.New()
	talk(t, s, "stop 3: ok", "open lru 1: ok", "new: ok 1", "write 1 4: ok", "unpin 1: ok", "new: ok 2", "unpin 2: ok", "fetch 1: ok", "write 1 5: ok", "flush 1: ok", "write 1 6: ok", "flush 1: disk", "flushall: disk")
	talk(t, s, "disk 1: 5", "counts: 1 2", "read 1: ok 6", "unpin 1: ok", "new: disk", "fetch 2: disk", "pages: 1 2")
	talk(t, s, "stop 1: ok", "flush 1: ok", "fetch 2: disk", "counts: 1 3", "stop 1000000: ok", "fetch 2: ok", "unpin 2: ok")
	talk(t, s, "stop 0: ok", "fetch 1: disk", "counts: 2 3")
}

// P14.1, crash: what wasn't safe is gone, as are the pool, the counts, and what is to fail.
func TestCrash(t *testing.T) {
	s := shell.New()
	talk(t, s, "crash: ok", "pages: none", "new: no pool")
	talk(t, s, "open lru 3: ok", "new: ok 1", "new: ok 2", "write 1 5: ok", "flush 1: ok", "write 1 6: ok", "fail read 1 9: ok", "fail write 1 9: ok", "stop 0: ok", "counts: 0 1")
	talk(t, s, "crash: ok", "new: no pool", "read 1: no pool", "scans: no pool", "pages: 1 2", "disk 1: 5", "counts: 0 0")
	talk(t, s, "open twoq 3: ok", "pins 1: 0", "frame 1: -1", "fetch 1: ok", "read 1: ok 5", "write 1 7: ok", "flush 1: ok", "disk 1: 7", "counts: 1 1")
	talk(t, s, "crash: ok", "crash: ok", "disk 1: 7", "counts: 0 0")
}

// P14.1, pages: rising by id, whatever the order in which they came; of the disk, without a pool, too.
func TestPages(t *testing.T) {
	s := shell.New()
	talk(t, s, "pages: none", "open lru 5: ok", "pages: none", "new: ok 1", "pages: 1", "new: ok 2", "new: ok 3", "pages: 1 2 3")
	talk(t, s, "unpin 1: ok", "delete 1: ok", "pages: 2 3", "new: ok 1", "pages: 1 2 3", "unpin 2: ok", "delete 2: ok", "pages: 1 3", "crash: ok", "pages: 1 3")
}

// P14.1, disk: what the disk holds, not what the frame does; it is never a read that counts, fails, or is one of those to fail.
func TestDisk(t *testing.T) {
	s := shell.New()
	talk(t, s, "disk 0: unknown", "disk 1: unknown", "disk 100: unknown", "disk 101: unknown", "disk 1000000: unknown")
	talk(t, s, "open lru 1: ok", "new: ok 1", "disk 1: 0", "write 1 18446744073709551615: ok", "disk 1: 0", "flush 1: ok", "disk 1: 18446744073709551615")
	talk(t, s, "unpin 1: ok", "new: ok 2", "unpin 2: ok", "fail read 1 1: ok", "disk 1: 18446744073709551615", "fetch 1: disk", "stop 1: ok", "disk 1: 18446744073709551615", "disk 2: 0", "fetch 1: ok")
	talk(t, s, "disk 1: 18446744073709551615", "counts: 1 1", "unpin 1: ok", "delete 1: ok", "disk 1: unknown", "disk 2: 0", "disk 65538: unknown")
}

// P14.1, frame and pins: of any number, whether there is such a page or not.
func TestFrameAndPins(t *testing.T) {
	s := shell.New()
	talk(t, s, "open lru 2: ok", "new: ok 1", "new: ok 2", "fetch 2: ok", "fetch 2: ok")
	talk(t, s, "frame 1: 0", "frame 2: 1", "frame 3: -1", "frame 0: -1", "frame 1000000: -1", "frame 65537: -1")
	talk(t, s, "pins 1: 1", "pins 2: 3", "pins 3: 0", "pins 0: 0", "pins 1000000: 0", "pins 65537: 0")
	talk(t, s, "unpin 1: ok", "frame 1: 0", "pins 1: 0", "new: ok 3", "frame 3: 0", "frame 1: -1", "pins 3: 1")
}

// P14.1, counts: reads, then writes; that tells of the disk, without a pool, too.
func TestCounts(t *testing.T) {
	s := shell.New()
	talk(t, s, "counts: 0 0", "open lru 1: ok", "counts: 0 0", "new: ok 1", "unpin 1: ok", "new: ok 2", "unpin 2: ok", "counts: 0 0")
	talk(t, s, "fetch 1: ok", "unpin 1: ok", "fetch 2: ok", "unpin 2: ok", "fetch 1: ok", "counts: 3 0", "write 1 1: ok", "counts: 3 0", "flush 1: ok", "flush 1: ok", "flushall: ok", "counts: 3 1")
}

// asking are lines that ask the pool.
func asking() []string {
	return []string{
		"new", "fetch 1", "unpin 1", "read 1", "write 1 2", "flush 1", "flushall", "delete 1", "fetch 0", "read 4294967295", "write 4294967295 18446744073709551615",
		"frame 0", "frame 1", "frame 1000000", "pins 0", "pins 1", "pins 1000000", "scans",
	}
}

// P14.1: no pool: just of what asks it; nothing is done then.
func TestNoPool(t *testing.T) {
	s := shell.New()
	for range 2 {
		for _, line := range asking() {
			talk(t, s, line+": no pool")
		}
		talk(t, s, "pages: none", "disk 1: unknown", "counts: 0 0", "fail read 1 1: ok", "fail write 1 0: ok", "stop 5: ok", "crash: ok")
	}
	talk(t, s, "open lru 1: ok")
	for _, line := range asking() {
		if got := s.Do(line); got == "no pool" || got == "what" {
			t.Errorf("%q: %q, with a pool", line, got)
		}
	}
	talk(t, s, "crash: ok")
	for _, line := range asking() {
		talk(t, s, line+": no pool")
	}
}

// wrong are lines that are none of those that there are.
func wrong() []string {
	l := []string{"", " ", "  ", "    ", "     ", "\x00", "\xff", "\n", "0", "1", "-1", "N", "ok", "what", "no pool", "none", "unknown", "help", "close", "fail", "fail read", "fail write", "fail 1 1", "fail new 1 1", "fail Read 1 1", "fail read write 1 1", "fail  1 1", "open NAME N", "open lru N", "fail read N M", "stop N", "disk N", "frame N", "pins N"}
	for _, form := range []string{"open lru #", "fail read # 1", "fail read 1 #", "fail write # 1", "fail write 1 #", "stop #", "disk #", "frame #", "pins #"} {
		for _, word := range []string{
			"", "x", "N", "M", "-1", "-0", "+1", "00", "01", "007", "1.0", "1e3", "0x1", "1_0", "1,0", "١", "1\x00", "1\n", "\t1", "1000001", "1000002", "9999999", "2147483648", "4294967296", "4294967297",
			"9223372036854775808", "18446744073709551616", "18446744073709551617", "99999999999999999999999", strings.Repeat("0", 1000) + "1", strings.Repeat("9", 100000),
		} {
			l = append(l, strings.Replace(form, "#", word, 1))
		}
		l = append(l, strings.Replace(form, " #", "", 1), strings.Replace(form, "#", "1 1", 1)+" 1", strings.Replace(form, "#", " 1", 1)+" 1")
	}
	for _, line := range append(asking(), "crash", "pages", "counts", "open lru 1", "fail read 1 1", "fail write 1 1", "stop 1", "disk 1") {
		l = append(l, line+" ", " "+line, line+"  ", "  "+line, line+" 0", line+" x", line+"\n", line+"\t", line+"\x00", strings.ToUpper(line), strings.ToUpper(line[:1])+line[1:], "x"+line, line[1:], line+" "+line)
		if strings.Contains(line, " ") {
			l = append(l, strings.Replace(line, " ", "\t", 1), strings.Replace(line, " ", "\u00a0", 1), strings.Replace(line, " ", "", 1))
			if !strings.HasPrefix(line, "open") {
				l = append(l, strings.Replace(line, " ", "  ", 1))
			}
		}
	}
	for _, name := range []string{"new", "fetch", "unpin", "read", "write", "flush", "flushall", "delete", "frame", "pins", "disk", "stop", "open"} {
		l = append(l, name+"x", name+" x", name+" 1 x", name+" 01", name+" -1", name+" 1 1 1")
	}
	l = append(l, "fetch", "read", "write 1", "fetch 4294967296", "write 1 18446744073709551616", strings.Repeat("new ", 100000), "open "+strings.Repeat(" ", 100000), "open "+strings.Repeat("1 ", 100000))
	return l
}

// P14.1, and P1: what, ahead of no pool; nothing is done then.
func TestWhat(t *testing.T) {
	bare, full := shell.New(), shell.New()
	talk(t, full, "open lru 2: ok", "new: ok 1", "new: ok 2", "write 1 5: ok", "unpin 2: ok")
	for _, line := range wrong() {
		talk(t, bare, line+": what")
		talk(t, full, line+": what")
	}
	talk(t, bare, "new: no pool", "pages: none", "counts: 0 0")
	talk(t, full, "read 1: ok 5", "frame 1: 0", "frame 2: 1", "pins 1: 1", "pins 2: 0", "pages: 1 2", "disk 1: 0", "counts: 0 0", "scans: 0", "flush 1: ok", "fetch 2: ok")
}

// P14.1: numbers of the Shell's own lines are from 0 to 1000000, also where nothing is by such; those of calls are a call's.
func TestNumbers(t *testing.T) {
	s := shell.New()
	talk(t, s, "open arc 9: ok", "new: ok 1")
	for _, n := range []string{"0", "2", "9", "10", "65535", "65536", "999999", "1000000"} {
		talk(t, s, "fail read "+n+" 1000000: ok", "fail write "+n+" 0: ok", "fail read 1 "+n+": ok", "stop "+n+": ok", "disk "+n+": unknown", "frame "+n+": -1", "pins "+n+": 0")
	}
	for _, n := range []string{"1000001", "10000000", "4294967295"} {
		talk(t, s, "stop "+n+": what", "disk "+n+": what", "frame "+n+": what", "pins "+n+": what", "fail read "+n+" 1: what", "fail read 1 "+n+": what", "open lru "+n+": what")
		talk(t, s, "fetch "+n+": unknown", "write 1 "+n+": ok", "read 1: ok "+n)
	}
}

// P14.1, and P1: of a nil Shell, what; of one that New didn't make each line ends, too.
func TestNil(t *testing.T) {
	var s *shell.Shell
	zero := new(shell.Shell)
	for _, line := range slices.Concat(asking(), wrong(), []string{"open lru 1", "crash", "pages", "counts", "disk 1", "stop 1", "fail read 1 1", "fail write 1 1"}) {
		talk(t, s, line+": what")
		zero.Do(line)
	}
}

// P14.1, Lines: as many replies as lines, of a Shell of their own.
func TestLines(t *testing.T) {
	for _, l := range [][]string{nil, {}} {
		if got := shell.Lines(l); len(got) != 0 {
			t.Errorf("Lines of nothing: %q", got)
		}
	}
	l := []string{"open lru 1", "", "new", "pages", "crash", "new", "disk 1", ""}
	for range 2 {
		got := shell.Lines(l)
		if want := []string{"ok", "what", "ok 1", "1", "ok", "no pool", "0", "what"}; !slices.Equal(got, want) {
			t.Errorf("%q; want %q", got, want)
		}
	}
}

// P14.1, and rule 4: lines that are handed in aren't changed, and replies are new memory.
func TestLinesKeepNothing(t *testing.T) {
	l := []string{"open lru 1", "new", "pages", "spare"}
	got := shell.Lines(l[:3:4])
	if !slices.Equal(l, []string{"open lru 1", "new", "pages", "spare"}) {
		t.Errorf("the lines were changed: %q", l)
	}
	clear(l)
	if want := []string{"ok", "ok 1", "1"}; !slices.Equal(got, want) {
		t.Errorf("%q; want %q", got, want)
	}
}
