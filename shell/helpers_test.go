package shell

import (
	"bytes"
	"fmt"
	"math/rand"
	"reflect"
	"strings"
	"testing"

	"weft/api"
)

// dice rolls the same way in every run.
func dice(seed int64) *rand.Rand {
	return rand.New(rand.NewSource(2000 + seed))
}

func pick[E any](r *rand.Rand, l ...E) E { return l[r.Intn(len(l))] }

func quad(a, b, c, d int) api.Addr {
	return api.Addr(a)<<24 + api.Addr(b)<<16 + api.Addr(c)<<8 + api.Addr(d)
}

// brief is a value's text, cut off where it is long.
func brief(v any) string {
	if s, ok := v.(string); ok {
		v = fmt.Sprintf("%q", s)
	}
	s := fmt.Sprintf("%+v", v)
	if len(s) > 300 {
		s = s[:300] + ".."
	}
	return s
}

// sameAct: nil and empty bytes are the same.
func sameAct(a, b api.Act) bool {
	eq := bytes.Equal(a.Bytes, b.Bytes)
	a.Bytes, b.Bytes = nil, nil
	return eq && reflect.DeepEqual(a, b)
}

// reads: the line is that act.
func reads(t *testing.T, line string, want api.Act) {
	t.Helper()
	if got, err := ParseAct(line); err != api.OK || !sameAct(got, want) {
		t.Errorf("P20.1: ParseAct(%s) = %s, %d, want %s", brief(line), brief(got), err, brief(want))
	}
}

// refuses: the line is refused so, and nothing else is answered.
func refuses(t *testing.T, err api.Errno, lines ...string) {
	t.Helper()
	for _, line := range lines {
		if a, got := ParseAct(line); got != err || !reflect.DeepEqual(a, api.Act{}) {
			t.Errorf("P20.1: ParseAct(%s) = %s, %d, want nothing, %d", brief(line), brief(a), got, err)
		}
	}
}

// writes: the act is that line, and the line is that act again.
func writes(t *testing.T, a api.Act, want string) {
	t.Helper()
	if got, err := FormatAct(a); err != api.OK || got != want {
		t.Errorf("P20.2: FormatAct(%s) = %s, %d, want %s", brief(a), brief(got), err, brief(want))
	}
	reads(t, want, a)
}

// writesNot: the act has no line.
func writesNot(t *testing.T, err api.Errno, acts ...api.Act) {
	t.Helper()
	for _, a := range acts {
		if line, got := FormatAct(a); got != err || line != "" {
			t.Errorf("P20.2: FormatAct(%s) = %s, %d, want nothing, %d", brief(a), brief(line), got, err)
		}
	}
}

const zeroLine = "err 0 n 0 verdict 0 why 0 req 0\n"

// tells: the reply's text is these lines.
func tells(t *testing.T, r api.Reply, lines ...string) {
	t.Helper()
	want := strings.Join(lines, "\n") + "\n"
	if got := FormatReply(r); got != want {
		t.Errorf("P20.3: FormatReply(%s) = %s, want %s", brief(r), brief(got), brief(want))
	}
}

// adds: the reply's text is the first line of a zero reply, and these.
func adds(t *testing.T, r api.Reply, lines ...string) {
	t.Helper()
	tells(t, r, append([]string{strings.TrimSuffix(zeroLine, "\n")}, lines...)...)
}

// config is the text of DOC.md's example configuration, with so many hosts; more is put ahead of its end.
func config(hosts int, more ...string) string {
	text := fmt.Sprintf(`{"network":"10.5.0.0/16","subnetLen":24,"min":"10.5.1.0","hosts":%d,"first":"192.0.2.10","vni":1,"port":8472,"ttl":100,"renew":20,"log":8`, hosts)
	for _, m := range more {
		text += "," + m
	}
	return text + "}"
}

// script is lines, each with a newline behind it.
func script(lines ...string) string {
	return strings.Join(lines, "\n") + "\n"
}

// plays: the script's transcript is that.
func plays(t *testing.T, conf, script, want string) {
	t.Helper()
	if got, line, err := Play(conf, script); got != want || line != 0 || err != api.OK {
		t.Errorf("P20.5: Play(.., %s) = %s (%d bytes), %d, %d, want %s (%d bytes)", brief(script), brief(got), len(got), line, err, brief(want), len(want))
	}
}

// playsNot: the script is refused so, at that line.
func playsNot(t *testing.T, conf, script string, line int, err api.Errno) {
	t.Helper()
	if got, l, e := Play(conf, script); got != "" || l != line || e != err {
		t.Errorf("P20.5: Play(%s, %s) = %s, %d, %d, want nothing, %d, %d", brief(conf), brief(script), brief(got), l, e, line, err)
	}
}
