package policy

import (
	"slices"
	"strings"
	"testing"

	"weft/api"
)

// The chapter's examples, one by one.

const web = `# web
default in drop
chain in
accept state known
jump web to 10.5.2.0/24
reject proto tcp dport 80
chain web
return from 10.5.9.0/24
accept proto tcp dport 80-443
drop state known`

func theWeb(t *testing.T) *Rules {
	t.Helper()
	r, line, err := Parse(web)
	if r == nil || line != 0 || err != api.OK {
		t.Fatalf("P22.2: Parse = %v, %d, %d", r, line, err)
	}
	return r
}

func TestP22_4Examples(t *testing.T) {
	r := theWeb(t)
	one, nine, two := quad(10, 5, 1, 2), quad(10, 5, 9, 2), quad(10, 5, 2, 2)
	for _, c := range []struct {
		m            api.Match
		action, line int
	}{
		{match(false, false, one, two, 6, 5000, 80), api.Accept, 9},
		{match(false, false, nine, two, 6, 5000, 80), api.Reject, 6},
		{match(false, false, one, two, 6, 5000, 444), api.Drop, 0},
		{match(false, true, one, two, 17, 5, 5), api.Accept, 4},
		{match(true, false, 0, 0, 0, 0, 0), api.Accept, 0},
		{match(true, false, one, two, 6, 5000, 80), api.Accept, 0},
	} {
		if action, line := r.Judge(c.m); action != c.action || line != c.line {
			t.Errorf("P22.4: Judge(%+v) = %d, %d, want %d, %d", c.m, action, line, c.action, c.line)
		}
	}
}

func TestP22_5ExampleDead(t *testing.T) {
	r := theWeb(t)
	if list, err := r.Dead(); err != api.OK || !slices.Equal(list, []int{10}) {
		t.Errorf("P22.5: Dead = %v, %d", list, err)
	}
	if n := r.grid().cells(); n != 180 {
		t.Errorf("P22.5: %d cells", n)
	}
	want := [][]int{{0, int(quad(10, 5, 9, 0)), int(quad(10, 5, 10, 0))}, {0, int(quad(10, 5, 2, 0)), int(quad(10, 5, 3, 0))}, {0, 6, 7, 17, 18}, {0}, {0, 80, 81, 444}}
	for on, marks := range r.grid() {
		if !slices.Equal(marks, want[on]) {
			t.Errorf("P22.5: the marks of %d are %v", on, marks)
		}
	}
}

func TestP22_5ExampleWitness(t *testing.T) {
	r := theWeb(t)
	m, err := r.Witness(9)
	u := m.Tuple
	if err != api.OK || m.Out || m.Known || u.Src>>8 == quad(10, 5, 9, 0)>>8 || u.Dst>>8 != quad(10, 5, 2, 0)>>8 || u.Proto != 6 || u.DstPort < 80 || u.DstPort > 443 {
		t.Errorf("P22.5: Witness(9) = %+v, %d", m, err)
	}
	for _, line := range []int{10, 5, 99} {
		if m, err := r.Witness(line); err != api.ErrNone || m != (api.Match{}) {
			t.Errorf("P22.5: Witness(%d) = %+v, %d", line, m, err)
		}
	}
	m, err = r.Witness(0)
	if _, line := r.Judge(m); err != api.OK || line != 0 {
		t.Errorf("P22.5: Witness(0) = %+v, %d", m, err)
	}
}

func TestP22_3Example(t *testing.T) {
	want := "default in drop\ndefault out accept\n" + strings.TrimPrefix(web, "# web\ndefault in drop\n") + "\n"
	if text := theWeb(t).Text(); text != want {
		t.Errorf("P22.3: Text = %q", text)
	}
}

func TestP22_2Examples(t *testing.T) {
	for _, c := range []struct {
		text string
		line int
		err  api.Errno
	}{
		{"accept", 1, api.ErrRule},
		{"chain in\nchain in", 2, api.ErrChain},
		{"chain in\njump x\naccept dport 5-4", 3, api.ErrRule},
		{"chain in\njump x", 2, api.ErrChain},
		{"chain a\naccept\njump b\nchain b\njump a", 3, api.ErrLoop},
		{"chain in\ndrop proto 6 proto tcp", 2, api.ErrRule},
	} {
		if r, line, err := Parse(c.text); r != nil || line != c.line || err != c.err {
			t.Errorf("P22.2: Parse(%q) = %v, %d, %d, want %d, %d", c.text, r != nil, line, err, c.line, c.err)
		}
	}
}
