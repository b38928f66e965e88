package policy

import (
	"fmt"
	"math"
	"slices"
	"strings"
	"testing"

	"weft/api"
)

// P22.5: the cells, which lines never decide, and packets that lines decide.

// marked is a policy of which the five fields have so many marks. (With conditions on ports the protocol has 5 at least.)
func marked(src, dst, proto, sport, dport int) []string {
	asks := sport > 1 || dport > 1
	conditions := [][]string{
		addressMarks("from", src-1), addressMarks("to", dst-1), protoMarks(proto-1, asks),
		portMarks("sport", sport-1), portMarks("dport", dport-1),
	}
	list := []string{"chain in"}
	for i := range 64 {
		rule := "drop"
		for _, c := range conditions {
			if i < len(c) {
				rule += " " + c[i]
			}
		}
		if rule != "drop" {
			list = append(list, rule)
		}
	}
	return list
}

// addressMarks is conditions that make n marks more.
func addressMarks(on string, n int) []string {
	var list []string
	if n%2 == 1 {
		list = append(list, on+" 0.0.0.0/1")
	}
	for i := range n / 2 {
		list = append(list, fmt.Sprintf("%s 10.0.%d.7/32", on, i))
	}
	return list
}

func portMarks(on string, n int) []string {
	var list []string
	if n%2 == 1 {
		list = append(list, on+" 0-40000")
	}
	for i := range n / 2 {
		list = append(list, fmt.Sprintf("%s %d", on, 10*i+5))
	}
	return list
}

func protoMarks(n int, asks bool) []string {
	if asks {
		n -= 4
	}
	var list []string
	if n%2 == 1 {
		list = append(list, "proto 0")
	}
	for i := range n / 2 {
		list = append(list, fmt.Sprintf("proto %d", 30+3*i))
	}
	return list
}

func TestP22_5SixteenThousandCells(t *testing.T) {
	for _, c := range [][5]int{
		{128, 128, 1, 1, 1}, {8, 8, 8, 8, 4}, {4, 8, 8, 8, 8}, {1, 1, 16, 32, 32}, {128, 1, 128, 1, 1}, {2, 1, 128, 64, 1}, {32, 2, 8, 1, 32}, // 16384
		{29, 113, 5, 1, 1}, {113, 1, 5, 29, 1}, {1, 29, 5, 1, 113}, // 16385 with ports
		{129, 127, 1, 1, 1}, {127, 129, 1, 1, 1}, {1, 1, 5, 56, 58}, {1, 1, 5, 57, 57}, {1, 1, 5, 58, 57}, // 16383, 16240, 16245, 16530
		{129, 128, 1, 1, 1}, {128, 129, 1, 1, 1}, {128, 1, 129, 1, 1}, // 16512
		{9, 8, 8, 8, 4}, {8, 9, 8, 8, 4}, {8, 8, 9, 8, 4}, {8, 8, 8, 9, 4}, {8, 8, 8, 8, 5},
		{129, 129, 1, 1, 1}, {2, 2, 129, 129, 129}, {129, 129, 129, 129, 129}, {1, 1, 1, 1, 1}, {2, 1, 1, 1, 1},
	} {
		list := marked(c[0], c[1], c[2], c[3], c[4])
		if c == [5]int{29, 113, 5, 1, 1} { // no mark of the ports', but those of the protocols
			list = marked(29, 113, 1, 1, 1)
			list[1] += " sport 0-65535"
		}
		b := taken(t, list...)
		want := c[0] * c[1] * c[2] * c[3] * c[4]
		if b.m.cells() != want || b.r.grid().cells() != want {
			t.Fatalf("P22.5: %v: %d cells, in the model %d, want %d", c, b.r.grid().cells(), b.m.cells(), want)
		}
		dead, err := b.r.Dead()
		m, err2 := b.r.Witness(2)
		none, err3 := b.r.Witness(99)
		if none != (api.Match{}) {
			t.Errorf("P22.5: Witness(99) = %+v, %d", none, err3)
		}
		if want > 16384 {
			if err != api.ErrFull || err2 != api.ErrFull || err3 != api.ErrFull || dead != nil || m != (api.Match{}) {
				t.Errorf("P22.5: %d cells: %v, %d, %v, %d, %d", want, dead, err, m, err2, err3)
			}
			continue
		}
		if err != api.OK || err3 != api.ErrNone || (err2 == api.OK) != (len(list) > 1 && !slices.Contains(dead, 2)) {
			t.Errorf("P22.5: %d cells: %v, %d, %v, %d, %d", want, dead, err, m, err2, err3)
		}
	}
}

// Above 16384 cells a line without a rule is refused for the cells too.
func TestP22_5FullAheadOfNone(t *testing.T) {
	r := taken(t, append(marked(8, 8, 8, 8, 5), "jump a", "return", "chain a")...).r
	for _, line := range []int{math.MinInt, -1, 0, 1, 2, 5, 6, 7, 8, 9, 10, math.MaxInt} {
		if m, err := r.Witness(line); err != api.ErrFull || m != (api.Match{}) {
			t.Errorf("P22.5: Witness(%d) = %+v, %d", line, m, err)
		}
	}
	if action, line := r.Judge(match(false, false, 1, 1, 1, 1, 1)); action != api.Accept || line != 0 {
		t.Errorf("P22.4: Judge = %d, %d", action, line)
	}
}

func TestP22_5Marks(t *testing.T) {
	for _, c := range []struct {
		rules string
		marks [5][]int
	}{
		{"drop", [5][]int{{0}, {0}, {0}, {0}, {0}}},
		{"drop state new", [5][]int{{0}, {0}, {0}, {0}, {0}}},
		{"drop from 0.0.0.0/0", [5][]int{{0}, {0}, {0}, {0}, {0}}},
		{"drop from 0.0.0.0/8", [5][]int{{0, 1 << 24}, {0}, {0}, {0}, {0}}},
		{"drop from 128.0.0.0/1", [5][]int{{0, 1 << 31}, {0}, {0}, {0}, {0}}},
		{"drop to 255.255.255.255/32", [5][]int{{0}, {0, 1<<32 - 1}, {0}, {0}, {0}}},
		{"drop to 255.255.255.254/32", [5][]int{{0}, {0, 1<<32 - 2, 1<<32 - 1}, {0}, {0}, {0}}},
		{"drop from 255.255.255.255/32", [5][]int{{0, 1<<32 - 1}, {0}, {0}, {0}, {0}}},
		{"drop from 255.255.255.254/32", [5][]int{{0, 1<<32 - 2, 1<<32 - 1}, {0}, {0}, {0}, {0}}},
		{"drop to 0.0.0.0/32", [5][]int{{0}, {0, 1}, {0}, {0}, {0}}},
		{"drop proto 0", [5][]int{{0}, {0}, {0, 1}, {0}, {0}}},
		{"drop proto 255", [5][]int{{0}, {0}, {0, 255}, {0}, {0}}},
		{"drop proto 254", [5][]int{{0}, {0}, {0, 254, 255}, {0}, {0}}},
		{"drop proto tcp", [5][]int{{0}, {0}, {0, 6, 7}, {0}, {0}}},
		{"drop proto 5", [5][]int{{0}, {0}, {0, 5, 6}, {0}, {0}}},
		{"drop sport 0-65535", [5][]int{{0}, {0}, {0, 6, 7, 17, 18}, {0}, {0}}},
		{"drop dport 0-65535", [5][]int{{0}, {0}, {0, 6, 7, 17, 18}, {0}, {0}}},
		{"drop sport 0", [5][]int{{0}, {0}, {0, 6, 7, 17, 18}, {0, 1}, {0}}},
		{"drop dport 65535", [5][]int{{0}, {0}, {0, 6, 7, 17, 18}, {0}, {0, 65535}}},
		{"drop dport 65534", [5][]int{{0}, {0}, {0, 6, 7, 17, 18}, {0}, {0, 65534, 65535}}},
		{"drop sport 80-443 proto 7", [5][]int{{0}, {0}, {0, 6, 7, 8, 17, 18}, {0, 80, 444}, {0}}},
		{"drop sport 5-9\ndrop sport 10-12\ndrop sport 5-12", [5][]int{{0}, {0}, {0, 6, 7, 17, 18}, {0, 5, 10, 13}, {0}}},
		{"drop sport 5\ndrop dport 5", [5][]int{{0}, {0}, {0, 6, 7, 17, 18}, {0, 5, 6}, {0, 5, 6}}},
		{"drop from 10.0.0.0/8 to 11.0.0.0/8", [5][]int{{0, 10 << 24, 11 << 24}, {0, 11 << 24, 12 << 24}, {0}, {0}, {0}}},
		{"return from 10.0.0.0/8\nchain in\nchain far\njump a from 11.0.0.0/8", [5][]int{{0, 10 << 24, 11 << 24, 12 << 24}, {0}, {0}, {0}, {0}}},
	} {
		b := taken(t, "chain a\n"+c.rules)
		for on, marks := range b.r.grid() {
			if !slices.Equal(marks, c.marks[on]) {
				t.Errorf("P22.5: the marks of %d of %q are %v, want %v", on, c.rules, marks, c.marks[on])
			}
		}
	}
}

func TestP22_5Dead(t *testing.T) {
	taken(t).isDead().witnesses(1, 0)
	taken(t, "chain in").isDead().witnesses(2, 0)
	taken(t, "chain in", "drop", "chain out", "reject").isDead().witnesses(4, 2, 4) // no packet is left for the defaults
	taken(t, "chain in", "drop").isDead().witnesses(3, 0, 2)
	taken(t, "chain in", "drop", "accept", "reject").isDead(3, 4).witnesses(4, 0, 2)
	taken(t, "chain a", "drop", "chain b", "accept", "reject state new").isDead(2, 4, 5).witnesses(5, 0)
	taken(t, "chain in", "drop state new", "accept state known", "reject").isDead(4).witnesses(4, 0, 2, 3)
	taken(t, "chain in", "return", "drop", "chain out", "accept").isDead(3).witnesses(5, 0, 5)
	taken(t, "chain in", "drop from 0.0.0.0/1", "drop from 128.0.0.0/1", "accept").isDead(4).witnesses(4, 0, 2, 3)
	taken(t, "chain in", "drop from 0.0.0.0/1", "drop from 128.0.0.0/2", "drop from 192.0.0.0/3", "accept", "reject from 224.0.0.0/3").isDead(6)
	taken(t, "chain in", "drop from 10.0.0.0/8", "accept from 10.5.0.0/16", "reject from 0.0.0.0/0", "drop").isDead(3, 5)
	taken(t, "chain in", "drop dport 0-79", "drop dport 81-65535", "accept dport 80", "accept dport 79-81", "reject proto 6", "reject proto 17", "drop").isDead(5, 6, 7).witnesses(8, 0, 2, 3, 4, 8)
	taken(t, "chain in", "drop dport 0-79", "drop dport 80-65535", "accept dport 80", "accept proto tcp", "reject proto udp", "accept").isDead(4, 5, 6)
	taken(t, "chain in", "drop proto icmp dport 80", "accept proto 0 sport 0-65535", "drop proto 16 dport 0", "drop proto 18 dport 0", "drop proto 5 sport 0", "drop proto 7 sport 0", "accept proto 17 dport 0").isDead(2, 3, 4, 5, 6, 7)
	taken(t, "chain in", "drop dport 80", "accept proto tcp", "reject dport 80", "reject dport 81").isDead(4).witnesses(5, 0, 2, 3, 5)
	taken(t, "chain in", "drop to 255.255.255.255/32", "accept proto 255", "reject dport 65535 sport 65535", "drop to 255.255.255.254/31", "drop state new").isDead()
	taken(t, "chain in", "drop dport 0-65534", "accept dport 65535", "drop proto 6", "drop proto 17").isDead(4, 5)
}

// A line is dead where no way to it is left, and alive where one is.
func TestP22_5DeadThroughChains(t *testing.T) {
	taken(t, "chain in", "jump a state new", "chain a", "drop state known", "accept").isDead(4).witnesses(5, 0, 5)
	taken(t, "chain in", "jump a state new", "chain a", "drop state known", "accept", "chain out", "jump a").isDead().witnesses(7, 0, 4, 5)
	taken(t, "chain in", "jump a", "drop", "chain a", "accept state new", "return", "accept").isDead(7).witnesses(7, 0, 3, 5)
	taken(t, "chain in", "jump a", "jump b", "drop", "chain a", "accept proto 6", "chain b", "accept proto 6", "reject proto 7").isDead(8)
	taken(t, "chain in", "drop", "jump a", "chain a", "reject", "chain out", "jump b", "chain b", "jump a state known").isDead().witnesses(9, 0, 2, 5)
	taken(t, "chain in", "drop", "jump a", "chain a", "reject", "chain b", "jump a").isDead(5)
	taken(t, "chain out", "jump a to 10.0.0.0/8", "chain a", "drop to 11.0.0.0/8", "accept to 10.0.0.0/9", "accept to 10.128.0.0/9", "return", "chain in", "jump a from 10.0.0.0/8").isDead().check()
	taken(t, "chain out", "jump a to 10.0.0.0/8", "chain a", "drop to 11.0.0.0/8", "accept to 10.0.0.0/9", "accept to 10.128.0.0/9", "reject").isDead(4, 7).check()
	taken(t, "default in drop", "default out drop", "chain in", "accept", "chain out", "jump in", "reject").isDead(7).witnesses(8, 4)
}

// The lines of Dead rise, whatever the order of the chains.
func TestP22_5DeadRises(t *testing.T) {
	taken(t, "chain z", "drop", "chain out", "jump b", "jump a", "chain b", "return", "drop", "chain a", "return", "accept", "reject", "chain in", "return", "drop").isDead(2, 8, 11, 12, 15)
}

func TestP22_5WitnessOfAnyLine(t *testing.T) {
	b := taken(t, strings.Split(web, "\n")...)
	for _, line := range []int{math.MinInt, math.MinInt + 1, -1 << 40, -100, -1, 1, 2, 3, 5, 7, 8, 10, 11, 12, 99, 1 << 20, 1<<32 + 9, 1 << 62, math.MaxInt} {
		b.witness(line, false)
	}
	for _, line := range []int{0, 4, 6, 9} {
		b.witness(line, true)
	}
}

// A witness is always the same, of the same policy read again, with lines between, or from its own text.
func TestP22_5SameWitness(t *testing.T) {
	r := dice()
	for range 300 {
		source := anyPolicy(r, 1+r.Intn(10))
		b, ok := asked(t, source)
		if !ok || b.m.cells() > 16384 {
			continue
		}
		again := taken(t, source)
		back := taken(t, b.text())
		was, is := linesOfRules(source), linesOfRules(b.text())
		for k, line := range was {
			m, err := b.r.Witness(line)
			b.judge(anyMatch(r))
			b.r.Dead()
			m2, err2 := b.r.Witness(line)
			m3, err3 := again.r.Witness(line)
			_, err4 := back.r.Witness(is[k])
			if m2 != m || m3 != m || err2 != err || err3 != err || err4 != err {
				t.Fatalf("P22.5: Witness(%d) = %+v, %d, then %+v, %d and %+v, %d", line, m, err, m2, err2, m3, err3)
			}
		}
	}
}

func TestP22_5ByDice(t *testing.T) {
	r := dice()
	seen := map[string]int{}
	for range 700 {
		b, ok := asked(t, anyPolicy(r, 1+r.Intn(12)))
		if !ok {
			continue
		}
		if b.m.cells() > 2500 {
			seen["many"]++
			if b.m.cells() > 16384 {
				b.dead()
			}
			continue
		}
		b.check()
		dead := b.dead()
		seen["dead"] += len(dead)
		seen["rules"] += len(b.m.rules)
		for range 100 {
			if _, line := b.judge(anyMatch(r)); slices.Contains(dead, line) {
				t.Fatalf("P22.5: the dead line %d decides", line)
			}
		}
	}
	if seen["dead"] < 500 || seen["rules"] < 1500 {
		t.Errorf("the test's own policies: %v", seen)
	}
}

// Dead lines taken out, every packet is judged as before, and nothing else is dead.
func TestP22_5DeadTakenOut(t *testing.T) {
	r := dice()
	gone := 0
	for range 400 {
		source := anyPolicy(r, 1+r.Intn(10))
		b, ok := asked(t, source)
		if !ok || b.m.cells() > 16384 {
			continue
		}
		dead, _ := b.r.Dead()
		list := strings.Split(source, "\n")
		for _, line := range slices.Backward(dead) {
			list = slices.Delete(list, line-1, line)
			gone++
		}
		rest, ok := asked(t, lines(list...))
		if !ok {
			t.Fatalf("P22.2: without its dead lines: %q", lines(list...))
		}
		for range 60 {
			m := anyMatch(r)
			action, _ := b.judge(m)
			if without, _ := rest.judge(m); without != action {
				t.Fatalf("P22.5: Judge(%+v) = %d, without dead lines %d, of\n%s", m, action, without, source)
			}
		}
		if left, err := rest.r.Dead(); err != api.OK || len(left) > 0 {
			t.Fatalf("P22.5: Dead = %v, %d behind Dead = %v of\n%s", left, err, dead, source)
		}
	}
	if gone < 300 {
		t.Errorf("the test's own policies have %d dead lines", gone)
	}
}

// The most cells that may be, with the heaviest chains: it ends, and tells what the model tells.
func TestP22_5LargestPolicies(t *testing.T) {
	list := append(marked(8, 8, 8, 8, 4), "drop state new", "jump far", "reject state known", "chain far", "accept state known proto 30", "accept proto 30", "return", "accept")
	b := taken(t, list...)
	if b.m.cells() != 16384 {
		t.Fatalf("%d cells", b.m.cells())
	}
	b.check()
	b = taken(t, marked(128, 128, 1, 1, 1)...)
	b.dead()
}
