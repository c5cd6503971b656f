package shell_test

import (
	"regexp"
	"slices"
	"strconv"
	"strings"
	"testing"

	"hatcheck/api"
	"hatcheck/crash"
	"hatcheck/disk"
	"hatcheck/model"
	"hatcheck/pool"
	"hatcheck/script"
	"hatcheck/shell"
)

// plain is a Shell told as plainly as can be, by the layers below, that a Shell is held against.
type plain struct {
	d *disk.Disk
	p *pool.Pool
}

func newPlain(t *testing.T) *plain {
	t.Helper()
	d, e := disk.New(100)
	if e != api.OK {
		t.Fatal(e)
	}
	return &plain{d: d}
}

// numberText is what numbers of a Shell's own lines look like; those of 7 digits are too great, but for one.
const numberText = "(0|[1-9][0-9]{0,5}|1000000)"

var (
	opening = regexp.MustCompile(`\Aopen ([^ ]*) ` + numberText + `\z`)
	failing = regexp.MustCompile(`\Afail (read|write) ` + numberText + " " + numberText + `\z`)
	single  = regexp.MustCompile(`\A(stop|disk|frame|pins) ` + numberText + `\z`)
)

func toInt(digits string) int {
	n, _ := strconv.Atoi(digits)
	return n
}

func (p *plain) do(line string) string {
	o, e := script.Parse(line)
	switch {
	case e == api.OK && p.p == nil, line == "scans" && p.p == nil:
		return "no pool"
	case e == api.OK:
		return script.Told(o, model.Call(p.p, o))
	case line == "scans":
		return strconv.Itoa(p.p.Scans())
	case line == "crash":
		p.d, p.p = p.d.Copy(), nil
		return "ok"
	case line == "counts":
		return strconv.Itoa(p.d.Reads()) + " " + strconv.Itoa(p.d.Writes())
	case line == "pages":
		return p.pages()
	}
	if w := opening.FindStringSubmatch(line); w != nil {
		return p.open(w[1], toInt(w[2]))
	}
	if w := failing.FindStringSubmatch(line); w != nil {
		p.d.Fail(uint32(toInt(w[2])), w[1] == "write", toInt(w[3]))
		return "ok"
	}
	if w := single.FindStringSubmatch(line); w != nil {
		return p.single(w[1], toInt(w[2]))
	}
	return "what"
}

func (p *plain) open(name string, frames int) string {
	if !slices.Contains(crash.Policies(), name) || frames < 1 || frames > 65535 {
		return "argument"
	}
	p.p, _ = pool.New(p.d, frames, crash.Policy(name, frames))
	return "ok"
}

func (p *plain) pages() string {
	text := ""
	for _, id := range p.d.Pages() {
		text += " " + strconv.Itoa(int(id))
	}
	if text == "" {
		return "none"
	}
	return text[1:]
}

func (p *plain) single(name string, n int) string {
	switch {
	case name == "stop":
		p.d.Stop(n)
		return "ok"
	case name == "disk":
		v, e := p.d.Copy().Read(uint32(n))
		if e != api.OK {
			return "unknown"
		}
		return strconv.FormatUint(v, 10)
	case p.p == nil:
		return "no pool"
	case name == "frame":
		return strconv.Itoa(p.p.Frame(uint32(n)))
	}
	return strconv.Itoa(p.p.Pins(uint32(n)))
}

// numbers are the same ones at each run.
type numbers uint64

func (n *numbers) below(m int) int {
	*n = *n*6364136223846793005 + 1442695040888963407
	return int(uint64(*n)>>33) % m
}

// text is one of the numbers below m, in digits.
func (n *numbers) text(m int) string { return strconv.Itoa(n.below(m)) }

// call is a call's Line; such as bring pages, and let them go, come more often.
func (n *numbers) call() string {
	id := n.text(9)
	return [...]string{
		"new", "new", "fetch " + id, "fetch " + id, "fetch " + id, "unpin " + id, "unpin " + id, "unpin " + id, "unpin " + id, "unpin " + id,
		"read " + id, "write " + id + " " + n.text(1000), "write " + id + " " + n.text(1000), "flush " + id, "flushall", "delete " + id,
	}[n.below(16)]
}

// asked is a line that changes nothing.
func (n *numbers) asked() string {
	id := n.text(9)
	return [...]string{"pages", "disk " + id, "frame " + id, "pins " + id, "counts", "scans"}[n.below(6)]
}

// line is any; most are calls.
func (n *numbers) line() string {
	switch k := n.below(100); {
	case k < 60:
		return n.call()
	case k < 85:
		return n.asked()
	case k < 88:
		return "open " + policies[n.below(5)] + " " + n.text(8)
	case k < 92:
		return "fail " + []string{"read", "write"}[n.below(2)] + " " + n.text(9) + " " + n.text(4)
	case k < 94:
		return "stop " + n.text(9)
	case k < 95:
		return "crash"
	}
	return n.slip(n.line())
}

// slip is a line with a byte more, or less, or another one.
func (n *numbers) slip(line string) string {
	c := " 019-+anoN\x00"[n.below(11):][:1]
	i := n.below(len(line))
	return [...]string{line[:i] + c + line[i:], line[:i] + line[i+1:], line[:i] + c + line[i+1:]}[n.below(3)]
}

// P14.1, and P7: a Shell's replies are just what the layers below do.
func TestLikePlain(t *testing.T) {
	n := numbers(1)
	for range 400 {
		s, p := shell.New(), newPlain(t)
		var lines, replies []string
		for range 400 {
			line := n.line()
			got, want := s.Do(line), p.do(line)
			lines, replies = append(lines, line), append(replies, want)
			if got != want {
				t.Fatalf("%q: %q; want %q, behind %q", line, got, want, lines)
			}
		}
		if got := shell.Lines(lines); !slices.Equal(got, replies) {
			t.Fatalf("Lines of %q: %q; want %q", lines, got, replies)
		}
	}
}

// P14.1: lines near to such as there are, with a pool, and without.
func TestNearLines(t *testing.T) {
	for _, line := range append(asking(), "open lru 12", "open pro 1000000", "fail read 1 20", "fail write 20 1000000", "stop 100", "disk 1000000", "crash", "pages", "counts") {
		for i := range len(line) + 1 {
			for _, c := range []byte(" 01-+wN\x00\xff") {
				l := []string{line[:i] + string([]byte{c}) + line[i:], line[:i]}
				if i < len(line) {
					l = append(l, line[:i]+line[i+1:], line[:i]+string([]byte{c})+line[i+1:])
				}
				for _, near := range l {
					s, p := shell.New(), newPlain(t)
					if got, want := s.Do(near), p.do(near); got != want {
						t.Errorf("%q: %q; want %q", near, got, want)
					}
					s.Do("open arc 2")
					p.do("open arc 2")
					if got, want := s.Do(near), p.do(near); got != want {
						t.Errorf("%q, with a pool: %q; want %q", near, got, want)
					}
				}
			}
		}
	}
}

// P14.2: a Shell hangs on its own lines alone, whatever others do meanwhile.
func TestShellsApart(t *testing.T) {
	n := numbers(2)
	for range 100 {
		shells := []*shell.Shell{shell.New(), shell.New(), shell.New()}
		lines, replies := make([][]string, 3), make([][]string, 3)
		for range 600 {
			k, line := n.below(3), n.line()
			lines[k], replies[k] = append(lines[k], line), append(replies[k], shells[k].Do(line))
		}
		for k := range shells {
			if got := shell.Lines(lines[k]); !slices.Equal(got, replies[k]) {
				t.Fatalf("%q: %q, among others %q", lines[k], got, replies[k])
			}
		}
	}
}

// P14.3: no scans of a pool that was opened, whichever policy it has, as long as the disk isn't made to fail.
func TestNoScans(t *testing.T) {
	n := numbers(3)
	for _, name := range policies {
		for range 60 {
			s := shell.New()
			for range 3 {
				talk(t, s, "open "+name+" "+strconv.Itoa(1+n.below(5))+": ok", "scans: 0")
				for range 300 {
					line := n.call()
					s.Do(line)
					if got := s.Do("scans"); got != "0" {
						t.Fatalf("%s, behind %q: %s scans", name, line, got)
					}
				}
				if n.below(2) == 0 {
					talk(t, s, "crash: ok")
				}
			}
		}
	}
}

// opOf is the call of a Line.
func opOf(t *testing.T, line string) model.Op {
	t.Helper()
	o, e := script.Parse(line)
	if e != api.OK {
		t.Fatalf("%q is no call's", line)
	}
	return o
}

// P2 and P3, by lines: whichever policy, calls are replied to as the Model has it, and behind flushall the disk holds the same.
func TestLikeModel(t *testing.T) {
	n := numbers(4)
	for range 60 {
		frames := 1 + n.below(5)
		m, e := model.Begin(frames, 100)
		if e != api.OK {
			t.Fatal(e)
		}
		shells := make([]*shell.Shell, len(policies))
		for i, name := range policies {
			shells[i] = shell.New()
			talk(t, shells[i], "open "+name+" "+strconv.Itoa(frames)+": ok")
		}
		for range 300 {
			line := n.call()
			o := opOf(t, line)
			want := script.Told(o, m.Do(o))
			for i, s := range shells {
				if got := s.Do(line); got != want {
					t.Fatalf("%s, %q: %q; want %q", policies[i], line, got, want)
				}
			}
		}
		for _, s := range shells {
			talk(t, s, "flushall: ok")
			for id := range uint32(12) {
				want := "unknown"
				if v, there := m.Value(id); there {
					want = strconv.FormatUint(v, 10)
				}
				talk(t, s, "disk "+strconv.Itoa(int(id))+": "+want)
			}
		}
	}
}

// answerOf is the answer of a call, as far as its reply tells of it.
func answerOf(o model.Op, reply string) model.Answer {
	if word, rest, _ := strings.Cut(reply, " "); word == "ok" {
		if o.Kind == model.New {
			return model.Answer{Id: uint32(toInt(rest))}
		}
		return model.Answer{}
	}
	return model.Answer{Err: api.ErrArg}
}

// P4, by lines: wherever the disk stops, or fails, what is left behind a crash is what it may hold by the calls and their replies.
func TestCrashKeepsWhatWasSafe(t *testing.T) {
	n := numbers(5)
	for range 400 {
		s := shell.New()
		s.Do("open " + policies[n.below(5)] + " " + strconv.Itoa(1+n.below(4)))
		if n.below(3) > 0 {
			s.Do("stop " + n.text(40))
		}
		var ops []model.Op
		var answers []model.Answer
		for range 120 {
			if n.below(10) == 0 {
				s.Do("fail " + []string{"read", "write"}[n.below(2)] + " " + n.text(9) + " " + n.text(3))
			}
			line := n.call()
			o := opOf(t, line)
			ops, answers = append(ops, o), append(answers, answerOf(o, s.Do(line)))
		}
		talk(t, s, "crash: ok")
		var ids []string
		for _, c := range crash.Claims(ops, answers) {
			id := strconv.Itoa(int(c.Id))
			ids = append(ids, id)
			v, e := strconv.ParseUint(s.Do("disk "+id), 10, 64)
			if e != nil || !slices.Contains(c.Values, v) {
				t.Fatalf("page %s: %d, %v; it may hold %v, behind %v, %v", id, v, e, c.Values, ops, answers)
			}
		}
		if want := strings.Join(ids, " "); s.Do("pages") != want && want != "" {
			t.Fatalf("pages: %q; want %q", s.Do("pages"), want)
		}
	}
}

// P6, by lines: the disk's reads are no more than pages were fetched, its writes no more than they were written.
func TestCountsAreFew(t *testing.T) {
	n := numbers(6)
	for range 200 {
		s := shell.New()
		s.Do("open " + policies[n.below(5)] + " " + strconv.Itoa(1+n.below(4)))
		fetches, writes := 0, 0
		for range 200 {
			line := n.call()
			reply := s.Do(line)
			if reply == "ok" && strings.HasPrefix(line, "fetch") {
				fetches++
			}
			if reply == "ok" && strings.HasPrefix(line, "write") {
				writes++
			}
			reads, wrote, _ := strings.Cut(s.Do("counts"), " ")
			if toInt(reads) > fetches || toInt(wrote) > writes {
				t.Fatalf("counts %s %s, of %d fetches and %d writes", reads, wrote, fetches, writes)
			}
		}
	}
}
