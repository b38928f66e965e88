package policy

import (
	"math/rand"
	"slices"
	"strings"
	"testing"

	"weft/api"
)

// dice rolls the same way in every run.
func dice() *rand.Rand {
	return rand.New(rand.NewSource(22))
}

func pick[E any](r *rand.Rand, list ...E) E {
	return list[r.Intn(len(list))]
}

func quad(a, b, c, d int) api.Addr {
	return api.Addr(a<<24 | b<<16 | c<<8 | d)
}

func match(out, known bool, src, dst api.Addr, proto byte, from, to uint16) api.Match {
	return api.Match{Out: out, Known: known, Tuple: api.Tuple{Src: src, Dst: dst, Proto: proto, SrcPort: from, DstPort: to}}
}

// inTCP is a new packet of tcp that comes in, to that port.
func inTCP(port uint16) api.Match {
	return match(false, false, quad(10, 5, 1, 2), quad(10, 5, 2, 2), 6, 5000, port)
}

// lines is a text of these lines, without a newline behind the last one.
func lines(list ...string) string {
	return strings.Join(list, "\n")
}

// refused tells a test's failure, if a text is not refused just so.
func refused(t *testing.T, text string, line int, err api.Errno) {
	t.Helper()
	if r, l, e := Parse(text); r != nil || l != line || e != err {
		t.Errorf("P22.2: Parse(%.200q) = %v, %d, %d, want nil, %d, %d", text, r != nil, l, e, line, err)
	}
	if _, l, e := modelParse(text); l != line || e != err {
		t.Errorf("the model: Parse(%.200q) = %d, %d, want %d, %d", text, l, e, line, err)
	}
}

// both is a policy and its model, which are asked the same.
type both struct {
	t *testing.T
	r *Rules
	m *modelPolicy
}

// taken is a policy of a text that must be one.
func taken(t *testing.T, list ...string) both {
	t.Helper()
	b, ok := asked(t, lines(list...))
	if !ok {
		_, line, err := Parse(lines(list...))
		t.Fatalf("P22.2: Parse(%.200q) = %d, %d", lines(list...), line, err)
	}
	return b
}

// asked is what becomes of any text, in the program and the model alike; false, if it is refused.
func asked(t *testing.T, text string) (both, bool) {
	t.Helper()
	r, line, err := Parse(text)
	m, wantLine, want := modelParse(text)
	if line != wantLine || err != want || (r == nil) != (err != api.OK) {
		t.Fatalf("P22.2: Parse(%q) = %v, %d, %d, want %d, %d", text, r != nil, line, err, wantLine, want)
	}
	if err != api.OK {
		return both{}, false
	}
	return both{t, r, m}, true
}

func (b both) judge(m api.Match) (int, int) {
	b.t.Helper()
	action, line := b.r.Judge(m)
	want, wantLine := b.m.judge(m)
	if action != want || line != wantLine {
		b.t.Fatalf("P22.4: Judge(%+v) = %d, %d, want %d, %d, of\n%s", m, action, line, want, wantLine, b.m.text())
	}
	return action, line
}

// judges tells a failure, if a packet is not judged just so.
func (b both) judges(m api.Match, action, line int) both {
	b.t.Helper()
	if a, l := b.judge(m); a != action || l != line {
		b.t.Errorf("P22.4: Judge(%+v) = %d, %d, want %d, %d", m, a, l, action, line)
	}
	return b
}

func (b both) text() string {
	b.t.Helper()
	text := b.r.Text()
	if text != b.m.text() {
		b.t.Fatalf("P22.3: Text = %q, want %q", text, b.m.text())
	}
	return text
}

func (b both) dead() []int {
	b.t.Helper()
	list, err := b.r.Dead()
	if b.m.cells() > 16384 {
		if err != api.ErrFull || len(list) != 0 {
			b.t.Fatalf("P22.5: Dead of %d cells = %v, %d", b.m.cells(), list, err)
		}
		return nil
	}
	if want := b.m.dead(); err != api.OK || !slices.Equal(list, want) {
		b.t.Fatalf("P22.5: Dead = %v, %d, want %v, of\n%s", list, err, want, b.m.text())
	}
	return list
}

// isDead tells a failure, if Dead does not tell just these lines.
func (b both) isDead(list ...int) both {
	b.t.Helper()
	if got := b.dead(); !slices.Equal(got, list) {
		b.t.Errorf("P22.5: Dead = %v, want %v", got, list)
	}
	return b
}

// witnesses asks for a witness of every line, and of lines that there are not; those given must have one, and no others.
func (b both) witnesses(last int, want ...int) both {
	b.t.Helper()
	for line := -2; line <= last+2; line++ {
		b.witness(line, slices.Contains(want, line))
	}
	return b
}

func (b both) witness(line int, some bool) api.Match {
	b.t.Helper()
	m, err := b.r.Witness(line)
	if again, err2 := b.r.Witness(line); again != m || err2 != err {
		b.t.Fatalf("P22.5: Witness(%d) = %+v, then %+v", line, m, again)
	}
	if some {
		if _, by := b.judge(m); err != api.OK || by != line {
			b.t.Fatalf("P22.5: Witness(%d) = %+v, %d, which line %d decides, of\n%s", line, m, err, by, b.m.text())
		}
	} else if err != api.ErrNone || m != (api.Match{}) {
		b.t.Fatalf("P22.5: Witness(%d) = %+v, %d, of\n%s", line, m, err, b.m.text())
	}
	return m
}

// check holds all that a small policy answers against the model.
func (b both) check() both {
	b.t.Helper()
	b.text()
	b.dead()
	if b.m.cells() > 16384 {
		return b
	}
	deciding := b.m.deciding()
	last := 0
	if n := len(b.m.rules); n > 0 {
		last = b.m.rules[n-1].line
	}
	for line := -1; line <= last+1; line++ {
		b.witness(line, deciding[line])
	}
	return b
}
