package policy

import (
	"fmt"
	"math/rand"
	"slices"
	"strings"
	"testing"

	"weft/api"
)

// P22.3: the canonical text, and the policy that is read back from it.

// linesOfRules is the numbers of a text's lines that are rules.
func linesOfRules(text string) []int {
	var list []int
	for i, line := range strings.Split(text, "\n") {
		line = strings.Trim(line, " ")
		if line != "" && line[0] != '#' && !strings.HasPrefix(line, "chain ") && !strings.HasPrefix(line, "default ") {
			list = append(list, i+1)
		}
	}
	return list
}

// readBack holds a policy against the one that is read from its text.
func (b both) readBack(r *rand.Rand, source string, packets int) {
	b.t.Helper()
	text := b.text()
	again := taken(b.t, text)
	if s := again.text(); s != text {
		b.t.Fatalf("P22.3: Text of %q = %q", text, s)
	}
	was, is := linesOfRules(source), linesOfRules(text)
	if len(was) != len(is) {
		b.t.Fatalf("P22.3: %d rules of %d", len(is), len(was))
	}
	for range packets {
		m := anyMatch(r)
		action, line := b.judge(m)
		action2, line2 := again.judge(m)
		if action != action2 || slices.Index(was, line) != slices.Index(is, line2) || (line == 0) != (line2 == 0) {
			b.t.Fatalf("P22.3: Judge(%+v) = %d, %d, and read back %d, %d", m, action, line, action2, line2)
		}
	}
}

func TestP22_3EachKindOfRule(t *testing.T) {
	r := dice()
	for _, action := range []string{"accept", "drop", "reject", "return", "jump b", "jump abcdefghijklmnop"} {
		for set := range 64 {
			rule := action
			for i, c := range sixConditions {
				if set>>i&1 == 1 {
					rule += " " + c
				}
			}
			for _, chain := range []string{"in", "out", "x"} {
				source := lines("chain b", "chain abcdefghijklmnop", "drop proto udp", "chain "+chain, rule)
				b := taken(t, source)
				if want := "default in accept\ndefault out accept\n" + source + "\n"; b.text() != want {
					t.Fatalf("P22.3: Text = %q, want %q", b.text(), want)
				}
				b.readBack(r, source, 3)
			}
		}
	}
}

func TestP22_3Words(t *testing.T) {
	for word, want := range map[string]string{
		"proto 6": "proto tcp", "proto 17": "proto udp", "proto 1": "proto icmp", "proto tcp": "proto tcp", "proto udp": "proto udp", "proto icmp": "proto icmp",
		"proto 0": "proto 0", "proto 2": "proto 2", "proto 5": "proto 5", "proto 7": "proto 7", "proto 16": "proto 16", "proto 18": "proto 18", "proto 255": "proto 255",
		"sport 0": "sport 0", "sport 0-0": "sport 0", "sport 7-7": "sport 7", "sport 7-8": "sport 7-8", "sport 65535-65535": "sport 65535", "sport 0-65535": "sport 0-65535", "sport 0-1": "sport 0-1",
		"dport 0": "dport 0", "dport 0-0": "dport 0", "dport 7-7": "dport 7", "dport 7-8": "dport 7-8", "dport 65535-65535": "dport 65535", "dport 0-65535": "dport 0-65535", "dport 65534-65535": "dport 65534-65535",
		"from 0.0.0.0/0": "from 0.0.0.0/0", "from 255.255.255.255/32": "from 255.255.255.255/32", "from 0.0.0.0/32": "from 0.0.0.0/32", "from 10.5.0.0/16": "from 10.5.0.0/16",
		"to 0.0.0.0/0": "to 0.0.0.0/0", "to 128.0.0.0/1": "to 128.0.0.0/1", "to 255.255.255.254/31": "to 255.255.255.254/31", "to 10.5.2.128/25": "to 10.5.2.128/25",
		"state new": "state new", "state known": "state known",
	} {
		b := taken(t, "chain a", "reject   "+word+"  ")
		if got := b.text(); got != "default in accept\ndefault out accept\nchain a\nreject "+want+"\n" {
			t.Errorf("P22.3: Text of %q = %q", word, got)
		}
	}
}

// Nothing but the policy stands in its text: no notes, no empty lines, defaults ahead, chains in the order in which they were begun.
func TestP22_3NothingElse(t *testing.T) {
	b := taken(t, "", "# note", "chain z", " # note", " drop  ", "", "default out drop", "chain a", "chain in", "jump z", "#", "jump  a state known", "chain m", "", "default in reject", "# end", "", "")
	want := "default in reject\ndefault out drop\nchain z\ndrop\nchain a\nchain in\njump z\njump a state known\nchain m\n"
	if got := b.text(); got != want {
		t.Errorf("P22.3: Text = %q, want %q", got, want)
	}
	for range 3 {
		b.text()
	}
}

func TestP22_3ByDice(t *testing.T) {
	r := dice()
	for range 1500 {
		source := anyPolicy(r, 1+r.Intn(30))
		list := strings.Split(source, "\n")
		for range r.Intn(4) { // lines between that say nothing
			list = slices.Insert(list, r.Intn(len(list)+1), pick(r, "", "  ", "# drop", "#"))
		}
		if b, ok := asked(t, lines(list...)); ok {
			b.readBack(r, lines(list...), 20)
		}
	}
}

// The longest text that a policy can have is one that may be read.
func TestP22_3Longest(t *testing.T) {
	var list []string
	for i := range 16 {
		list = append(list, fmt.Sprintf("chain abcdefghijklmn%02d", i))
		for k := range 4 {
			action := "reject"
			if i > 0 && k == 0 {
				action = fmt.Sprintf("jump abcdefghijklmn%02d", i-1)
			}
			list = append(list, action+" from 255.255.255.255/32 to 255.255.255.254/32 proto 255 sport 10000-65535 dport 10000-65535 state known")
		}
	}
	b := taken(t, list...)
	if got := b.text(); got != "default in accept\ndefault out accept\n"+lines(list...)+"\n" {
		t.Errorf("P22.3: Text = %q", got)
	}
	b.readBack(dice(), lines(list...), 50)
	if action, line := b.judge(match(false, false, 1, 1, 1, 1, 1)); action != api.Accept || line != 0 {
		t.Errorf("P22.4: Judge = %d, %d", action, line)
	}
}
