package script_test

import (
	"math"
	"math/big"
	"regexp"
	"strconv"
	"strings"
	"testing"

	"hatcheck/api"
	"hatcheck/model"
	"hatcheck/script"
)

// told are calls, and their Lines.
func told() map[string]model.Op {
	return map[string]model.Op{
		"new": come(), "flushall": flushAll(),
		"fetch 0": fetch(0), "fetch 1": fetch(1), "fetch 4294967295": fetch(math.MaxUint32),
		"unpin 0": unpin(0), "unpin 2": unpin(2), "unpin 4294967295": unpin(math.MaxUint32),
		"read 0": read(0), "read 10": read(10), "read 4294967295": read(math.MaxUint32),
		"flush 0": flush(0), "flush 65535": flush(65535), "flush 4294967295": flush(math.MaxUint32),
		"delete 0": remove(0), "delete 100": remove(100), "delete 4294967295": remove(math.MaxUint32),
		"write 3 77": write(3, 77), "write 0 0": write(0, 0), "write 0 1": write(0, 1), "write 1 0": write(1, 0),
		"write 4294967295 18446744073709551615": write(math.MaxUint32, math.MaxUint64),
		"write 7 4294967296":                    write(7, 1<<32), "write 7 9223372036854775808": write(7, 1<<63),
	}
}

// P13.1, Line and Parse: each call in words, and back.
func TestLines(t *testing.T) {
	for line, o := range told() {
		if s := script.Line(o); s != line {
			t.Errorf("Line(%v): %q; want %q", o, s, line)
		}
		if back, e := script.Parse(line); back != o || e != api.OK {
			t.Errorf("Parse(%q): %v, %v; want %v, OK", line, back, e, o)
		}
	}
}

// P13.1, Line: an empty text, where its words don't tell all: another Kind, an Id, a V.
func TestNoLine(t *testing.T) {
	var ops []model.Op
	for _, kind := range []int{-1, 8, 9, 256, 1 << 32, math.MaxInt, math.MinInt} {
		ops = append(ops, model.Op{Kind: kind}, model.Op{Kind: kind, Id: 1}, model.Op{Kind: kind, Id: 1, V: 2})
	}
	for _, kind := range []int{model.New, model.FlushAll} {
		for _, id := range []uint32{1, math.MaxUint32} {
			ops = append(ops, model.Op{Kind: kind, Id: id}, model.Op{Kind: kind, Id: id, V: 1})
		}
	}
	for kind := range 8 {
		if kind != model.Write {
			ops = append(ops, model.Op{Kind: kind, V: 1}, model.Op{Kind: kind, V: 1 << 32}, model.Op{Kind: kind, V: math.MaxUint64}, model.Op{Kind: kind, Id: 5, V: 1})
		}
	}
	for _, o := range ops {
		if s := script.Line(o); s != "" {
			t.Errorf("Line(%v): %q; want none", o, s)
		}
	}
}

func wantWord(t *testing.T, line string) {
	t.Helper()
	if o, e := script.Parse(line); o != (model.Op{}) || e != api.ErrWord {
		t.Errorf("Parse(%q): %v, %v; want nothing, ErrWord", line, o, e)
	}
}

// P13.1, Parse: ErrWord of what is no call's Line.
func TestParseOfOthers(t *testing.T) {
	for _, line := range []string{
		"", " ", "  ", "\x00", "\xff", "0", "1", "none", "what", "open lru 1", "crash", "pages",
		"new ", " new", "new 0", "new 1", "news", "ne", "New", "NEW", "new\n", "new\t", "newnew",
		"flushall ", "flushall 0", "flushall 1", "FlushAll", "flush all", "flush all 1",
		"fetch", "fetch ", "fetch  ", "fetch  1", " fetch 1", "fetch 1 ", "fetch 1 0", "fetch 1 2", "fetch\t1", "fetch1", "Fetch 1",
		"fetch 01", "fetch 00", "fetch -1", "fetch -0", "fetch +1", "fetch 1.0", "fetch 0x1", "fetch 1_0", "fetch 1e3", "fetch one", "fetch \u0661", "fetch 1\x00",
		"fetch 4294967296", "fetch 4294967297", "fetch 18446744073709551616", "fetch 18446744073709551617", "fetch 99999999999999999999999",
		"unpin", "unpin 1 0", "unpin 01", "read", "read 1 0", "read 4294967296", "flush", "flush 1 0", "flush 01", "delete", "delete 1 0", "delete -1",
		"write", "write ", "write  ", "write 1", "write 1 ", "write  1", "write 1  2", "write 1 2 ", "write 1 2 3", "write 1 2 0", " write 1 2", "write 1 2\n",
		"write 01 2", "write 1 02", "write 1 -2", "write -1 2", "write 1 +2", "write 1 00", "write x 2", "write 1 x", "write 1,2",
		"write 4294967296 1", "write 1 18446744073709551616", "write 1 99999999999999999999999",
		"fetch " + strings.Repeat("0", 1000) + "1", "fetch " + strings.Repeat("9", 1000000), "new" + strings.Repeat(" ", 1000000), strings.Repeat("new ", 250000),
	} {
		wantWord(t, line)
	}
}

// plainParse tells which lines there are by what they look like.
func plainParse(line string) (model.Op, bool) {
	for kind, form := range []string{"new", "fetch N", "unpin N", "read N", "write N M", "flush N", "flushall", "delete N"} {
		form = strings.ReplaceAll(strings.ReplaceAll(form, "N", "(0|[1-9][0-9]*)"), "M", "(0|[1-9][0-9]*)")
		found := regexp.MustCompile(`\A` + form + `\z`).FindStringSubmatch(line)
		if found == nil {
			continue
		}
		o := model.Op{Kind: kind}
		for i, digits := range found[1:] {
			n, _ := new(big.Int).SetString(digits, 10)
			switch {
			case i == 0 && n.BitLen() <= 32:
				o.Id = uint32(n.Uint64())
			case i == 1 && n.BitLen() <= 64:
				o.V = n.Uint64()
			default:
				return model.Op{}, false
			}
		}
		return o, true
	}
	return model.Op{}, false
}

// near are lines that a slip of one byte makes of a line, and that line.
func near(line string) []string {
	l := []string{line}
	for i := range len(line) + 1 {
		for _, c := range []byte(" 019-+anwN\x00\xff") {
			l = append(l, line[:i]+string([]byte{c})+line[i:])
			if i < len(line) {
				l = append(l, line[:i]+string([]byte{c})+line[i+1:])
			}
		}
		if i < len(line) {
			l = append(l, line[:i]+line[i+1:])
		}
	}
	return l
}

// P13.1, P13.2: lines near to such as there are; what Parse takes is the Line of what it answers.
func TestNearLines(t *testing.T) {
	for line := range told() {
		for _, s := range near(line) {
			want, ok := plainParse(s)
			o, e := script.Parse(s)
			if o != want || ok != (e == api.OK) || !ok && e != api.ErrWord {
				t.Errorf("Parse(%q): %v, %v; want %v, %v", s, o, e, want, ok)
			}
			if e == api.OK && script.Line(o) != s {
				t.Errorf("Parse(%q): %v, whose Line is %q", s, o, script.Line(o))
			}
		}
	}
}

// P13.2: what has a Line comes back of it; no two calls have the same.
func TestThereAndBack(t *testing.T) {
	ids := []uint32{0, 1, 9, 10, 99, 65535, 65536, 1<<31 - 1, 1 << 31, math.MaxUint32}
	values := []uint64{0, 1, 10, 1<<32 - 1, 1 << 32, 1<<63 - 1, 1 << 63, math.MaxUint64}
	seen := map[string]model.Op{}
	for kind := -2; kind < 11; kind++ {
		for _, id := range ids {
			for _, v := range values {
				o := model.Op{Kind: kind, Id: id, V: v}
				line := script.Line(o)
				if line == "" {
					continue
				}
				if other, there := seen[line]; there {
					t.Errorf("%v and %v have one Line", o, other)
				}
				seen[line] = o
				if back, e := script.Parse(line); back != o || e != api.OK {
					t.Errorf("Parse(%q): %v, %v; want %v, OK", line, back, e, o)
				}
			}
		}
	}
	if want := 2 + 5*len(ids) + len(ids)*len(values); len(seen) != want {
		t.Errorf("%d calls have a Line; want %d", len(seen), want)
	}
	n := numbers(15)
	for range 5000 {
		o := write(uint32(n.below(1<<31))<<n.below(2), uint64(n.below(1<<31))<<n.below(34))
		line := "write " + strconv.FormatUint(uint64(o.Id), 10) + " " + strconv.FormatUint(o.V, 10)
		if back, e := script.Parse(line); back != o || e != api.OK || script.Line(o) != line {
			t.Fatalf("%q: Parse %v, %v; Line %q; want %v", line, back, e, script.Line(o), o)
		}
	}
}

// P13.1, Told: behind ok, of New the Id, of Read V; of another call, and with an error, the word alone.
func TestTold(t *testing.T) {
	a := model.Answer{Id: 4, V: 8}
	for kind, want := range map[int]string{
		model.New: "ok 4", model.Fetch: "ok", model.Unpin: "ok", model.Read: "ok 8", model.Write: "ok", model.Flush: "ok", model.FlushAll: "ok", model.Delete: "ok",
		-1: "ok", 8: "ok", math.MaxInt: "ok", math.MinInt: "ok",
	} {
		o := model.Op{Kind: kind, Id: 5, V: 6}
		if s := script.Told(o, a); s != want {
			t.Errorf("Told(%v, %v): %q; want %q", o, a, s, want)
		}
		for e, word := range map[api.Errno]string{
			1: "argument", 2: "full", 3: "unknown", 4: "pinned", 5: "notpinned", 6: "noframe", 7: "disk", 8: "word",
			9: "none", -1: "none", math.MaxInt: "none", math.MinInt: "none",
		} {
			if s := script.Told(o, model.Answer{Err: e, Id: 4, V: 8}); s != word {
				t.Errorf("Told(%v) of error %d: %q; want %q", o, e, s, word)
			}
		}
	}
	for want, x := range map[string]struct {
		o model.Op
		a model.Answer
	}{
		"ok 0": {read(1), model.Answer{}}, "ok 1": {come(), model.Answer{Id: 1}}, "ok 4294967295": {come(), model.Answer{Id: math.MaxUint32}},
		"ok 18446744073709551615": {read(1), model.Answer{V: math.MaxUint64}}, "ok 4294967296": {read(1), model.Answer{V: 1 << 32}},
	} {
		if s := script.Told(x.o, x.a); s != want {
			t.Errorf("Told(%v, %v): %q; want %q", x.o, x.a, s, want)
		}
	}
	if s := script.Told(come(), model.Answer{}); s != "ok 0" {
		t.Errorf("Told of a New of 0: %q; want ok 0", s)
	}
}
