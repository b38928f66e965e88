package policy

import (
	"fmt"
	"math/rand"
	"strings"
	"testing"

	"weft/api"
)

// P22.2: which error of a text is told, and with which line.

func repeated(n int, line string) []string {
	return strings.Split(strings.TrimSuffix(strings.Repeat(line+"\n", n), "\n"), "\n")
}

// chainsNamed is n lines that begin chains a, b, c ..
func chainsNamed(n int) []string {
	var list []string
	for i := range n {
		list = append(list, "chain "+string(rune('a'+i)))
	}
	return list
}

func TestP22_2Lengths(t *testing.T) {
	head := "chain in\ndrop\n"
	taken(t, head+strings.Repeat("#", 16384-len(head))).judges(inTCP(1), api.Drop, 2)
	taken(t, strings.Repeat("\n", 16384-len(head))+head).judges(inTCP(1), api.Drop, 16384-len(head)+2)
	taken(t, strings.Repeat(" ", 16384))
	taken(t, "#"+strings.Repeat("\xff", 16383))
	for _, c := range []string{"#", "\n", " ", "x", "\x00", "\xff"} {
		refused(t, strings.Repeat(c, 16385), 0, api.ErrLong)
		refused(t, strings.Repeat(c, 70000), 0, api.ErrLong)
	}
	refused(t, head+strings.Repeat("#", 16385-len(head)), 0, api.ErrLong)
	refused(t, strings.Repeat("\n", 16385-len(head))+head, 0, api.ErrLong)
	refused(t, "drop\n"+strings.Repeat(" ", 16380), 0, api.ErrLong) // ahead of the line's own fault
	refused(t, "drop\n"+strings.Repeat(" ", 16379), 1, api.ErrRule)
	refused(t, "x"+strings.Repeat("\n", 16383), 1, api.ErrRule)
	refused(t, strings.Repeat("\n", 16383)+"x", 16384, api.ErrRule)
	refused(t, strings.Repeat("\u00e4", 8193), 0, api.ErrLong) // bytes, not characters
	refused(t, strings.Repeat("\u00e4", 8192), 1, api.ErrRule)
	taken(t, "#"+strings.Repeat("\u00e4", 8191)+"#")
}

// The first line at fault is told, whatever faults are behind it and whatever the whole is.
func TestP22_2FirstLine(t *testing.T) {
	refused(t, lines("chain in", "drop x", "drop y"), 2, api.ErrRule)
	refused(t, lines("drop", "chain in", "chain in"), 1, api.ErrRule)
	refused(t, lines("chain in", "chain in", "x"), 2, api.ErrChain)
	refused(t, lines("chain in", "x", "chain in"), 2, api.ErrRule)
	refused(t, lines("chain in", "jump x", "jump in", "x"), 4, api.ErrRule)
	refused(t, lines("chain in", "jump x", "jump in", "chain in"), 4, api.ErrChain)
	refused(t, lines("chain in", "jump in", "jump x"), 3, api.ErrChain) // loops are asked for behind the names
	refused(t, lines("chain in", "jump in", "drop", "jump x", "chain b", "jump y"), 4, api.ErrChain)
	refused(t, lines("", "chain in", "#", "jump in", "jump in"), 4, api.ErrLoop)
	refused(t, lines(append(append([]string{"chain in", "jump x"}, repeated(63, "drop")...), "drop", "x")...), 66, api.ErrFull)
	refused(t, lines(append(append([]string{"chain in", "jump x"}, repeated(63, "drop")...), "x", "drop")...), 66, api.ErrRule)
	refused(t, lines(append(append([]string{"chain zz", "jump x"}, chainsNamed(15)...), "chain q", "chain zz")...), 18, api.ErrFull)
	refused(t, lines(append(append([]string{"chain zz", "jump x"}, chainsNamed(15)...), "chain zz", "chain q")...), 18, api.ErrChain)
}

func TestP22_2ChainsTwice(t *testing.T) {
	for _, name := range []string{"in", "out", "a", "abcdefghijklmnop"} {
		refused(t, lines("chain "+name, "chain "+name), 2, api.ErrChain)
		refused(t, lines("chain "+name, "drop", "chain b", "drop", "chain "+name, "drop"), 5, api.ErrChain)
		refused(t, lines("chain b", "chain "+name, "  chain   "+name+" "), 3, api.ErrChain)
		taken(t, "chain "+name, "chain "+name[1:]+"z")
	}
	taken(t, "chain abcdefghijklmnop", "chain abcdefghijklmno", "chain abcdefghijklmnoq")
}

func TestP22_2SixteenChains(t *testing.T) {
	for n := 1; n <= 20; n++ {
		if n <= 16 {
			taken(t, chainsNamed(n)...)
			continue
		}
		refused(t, lines(chainsNamed(n)...), 17, api.ErrFull)
	}
	b := taken(t, append(append(chainsNamed(14), "chain in", "jump a"), "chain out", "drop")...)
	b.judges(match(true, false, 1, 1, 1, 1, 1), api.Drop, 18)
	sixteen := chainsNamed(16)
	refused(t, lines(append(sixteen, "chain q")...), 17, api.ErrFull)
	refused(t, lines(append(sixteen, "", "chain in")...), 18, api.ErrFull)
	refused(t, lines(append(sixteen, "drop", "chain p")...), 18, api.ErrChain) // ErrChain ahead of ErrFull
	refused(t, lines(append(sixteen, "chain a")...), 17, api.ErrChain)
	refused(t, lines(append(sixteen, "chain Q")...), 17, api.ErrRule) // ErrRule ahead of both
	refused(t, lines(append(sixteen, "chain a a")...), 17, api.ErrRule)
	refused(t, lines(append(sixteen, "chain")...), 17, api.ErrRule)
}

func TestP22_2SixtyFourRules(t *testing.T) {
	all := []string{"accept", "drop", "reject", "return", "jump b state new"}
	for _, action := range all {
		many := append([]string{"chain a"}, repeated(64, action)...)
		taken(t, append(many, "chain b")...)
		refused(t, lines(append(many, "chain b", "drop")...), 67, api.ErrFull)
		refused(t, lines(append(many, "drop")...), 66, api.ErrFull)
		refused(t, lines(append(many, "jump x")...), 66, api.ErrFull)
		refused(t, lines(append(many, "jump a")...), 66, api.ErrFull)
		refused(t, lines(append(many, "drop x")...), 66, api.ErrRule) // ErrRule ahead of ErrFull
		refused(t, lines(append(many, "jump")...), 66, api.ErrRule)
		refused(t, lines(append(many, "drop from 10.0.0.1/8")...), 66, api.ErrRule)
		refused(t, lines(append(many, "drop proto 6 proto 6")...), 66, api.ErrRule)
		refused(t, lines(append(many, "chain b", "#", "default in drop", "return state new")...), 69, api.ErrFull)
		refused(t, lines(append(many, "default in drop", "default in drop", "drop")...), 67, api.ErrRule)
	}
	b := taken(t, append(append([]string{"chain in"}, repeated(63, "accept proto 9")...), "drop", "default in reject")...)
	b.judges(inTCP(1), api.Drop, 65).judges(match(false, false, 1, 1, 9, 1, 1), api.Accept, 2)
	// They count over all chains together, and chains do not count among them.
	var spread []string
	for _, c := range chainsNamed(16) {
		spread = append(append(spread, c), repeated(4, "drop")...)
	}
	taken(t, spread...)
	refused(t, lines(append(spread, "drop")...), 81, api.ErrFull)
	refused(t, lines(append(spread, "chain q")...), 81, api.ErrFull)
}

func TestP22_2JumpsToNothing(t *testing.T) {
	refused(t, lines("chain in", "jump out"), 2, api.ErrChain)
	refused(t, lines("chain out", "jump in"), 2, api.ErrChain)
	refused(t, lines("chain a", "jump in"), 2, api.ErrChain)
	refused(t, lines("chain a", "drop", "jump b", "jump c", "chain b"), 4, api.ErrChain)
	refused(t, lines("chain a", "jump aa", "chain ab", "chain b"), 2, api.ErrChain)
	refused(t, lines("chain a", "return", "jump b state new", "jump c"), 3, api.ErrChain)
	refused(t, lines("chain a", "jump accept"), 2, api.ErrChain)
	refused(t, lines("chain a", "jump from from 10.0.0.0/8"), 2, api.ErrChain)
	taken(t, "chain in", "jump out", "chain out", "drop").judges(inTCP(1), api.Drop, 4).judges(match(true, true, 1, 1, 1, 1, 1), api.Drop, 4)
	taken(t, "chain out", "drop", "chain in", "jump out").judges(inTCP(1), api.Drop, 2)
	taken(t, "chain from", "drop", "chain in", "jump from from 10.0.0.0/8").judges(inTCP(1), api.Drop, 2)
	taken(t, "chain in", "jump later", "chain later", "drop").judges(inTCP(1), api.Drop, 4)
	taken(t, "chain in", "jump empty", "drop", "chain empty").judges(inTCP(1), api.Drop, 3)
}

func TestP22_2Loops(t *testing.T) {
	refused(t, lines("chain in", "jump in"), 2, api.ErrLoop)
	refused(t, lines("chain a", "jump a state new"), 2, api.ErrLoop)
	refused(t, lines("chain in", "drop", "jump in"), 3, api.ErrLoop) // reached or not
	refused(t, lines("chain a", "jump b", "chain b", "jump a"), 2, api.ErrLoop)
	refused(t, lines("chain a", "jump b", "chain b", "jump b"), 4, api.ErrLoop) // the first jump leads into a loop, but not back
	refused(t, lines("chain in", "jump a", "jump b", "chain a", "drop", "jump c", "chain b", "jump a", "chain c", "jump a"), 6, api.ErrLoop)
	refused(t, lines("chain a", "jump b", "chain b", "jump c", "chain c", "jump a"), 2, api.ErrLoop)
	refused(t, lines("chain z", "jump a", "chain a", "jump b", "chain b", "jump c", "chain c", "jump b"), 6, api.ErrLoop)
	refused(t, lines("chain in", "chain x", "jump y", "chain y", "jump x"), 3, api.ErrLoop) // nobody goes there
	refused(t, lines("chain a", "jump b", "chain b", "jump a", "jump x"), 5, api.ErrChain)
	taken(t, "chain a", "jump b", "jump c", "jump d", "chain b", "jump c", "jump d", "chain c", "jump d", "jump d", "chain d")
	taken(t, "chain d", "chain c", "jump d", "chain b", "jump c", "jump d", "chain a", "jump b", "jump c", "jump d")
}

// A ring of any length, in any order of the chains: the first line of all is told; with a jump into it ahead, the second.
func TestP22_2Rings(t *testing.T) {
	r := dice()
	for n := 1; n <= 16; n++ {
		for range 20 {
			order := r.Perm(n)
			next := make([]int, n)
			for i, k := range order {
				next[k] = order[(i+1)%n]
			}
			var list []string
			for i := range n {
				list = append(list, fmt.Sprintf("chain c%d", i), fmt.Sprintf("jump c%d", next[i]))
			}
			refused(t, lines(list...), 2, api.ErrLoop)
			if n < 16 {
				refused(t, lines(append([]string{"chain in", fmt.Sprintf("jump c%d", r.Intn(n))}, list...)...), 4, api.ErrLoop)
				k := r.Intn(n)
				open := append([]string{}, list...)
				open[2*k+1] = "drop"
				taken(t, append([]string{"chain in", fmt.Sprintf("jump c%d", r.Intn(n))}, open...)...)
			}
		}
	}
}

// All ways in which three chains can jump to one another.
func TestP22_2AllGraphsOfThree(t *testing.T) {
	seen := map[bool]int{}
	for graph := range 512 {
		var list []string
		for i := range 3 {
			list = append(list, "chain "+string("abc"[i]))
			for k := range 3 {
				if graph>>(3*i+k)&1 == 1 {
					list = append(list, "jump "+string("abc"[k]))
				}
			}
		}
		_, ok := asked(t, lines(list...))
		seen[ok]++
	}
	if seen[true] != 25 { // so many graphs without loops three chains have
		t.Errorf("P22.2: %d graphs of %v", seen[true], seen)
	}
}

func TestP22_2AnyGraphs(t *testing.T) {
	r := dice()
	seen := map[bool]int{}
	for range 4000 {
		n := 2 + r.Intn(15)
		var list []string
		order := r.Perm(n)
		for i := range n {
			list = append(list, fmt.Sprintf("chain c%d", i))
			for range r.Intn(4) {
				k := r.Intn(n)
				if r.Intn(9) > 0 && order[k] <= order[i] { // mostly one way only
					continue
				}
				list = append(list, fmt.Sprintf("jump c%d", k))
			}
		}
		_, ok := asked(t, lines(list...))
		seen[ok]++
	}
	if seen[true] < 500 || seen[false] < 500 {
		t.Errorf("the test's own graphs: %v", seen)
	}
}

// heavy is a policy whose chain of that name has that weight, up to 64 rules in all.
func heavy(name string, weight int) []string {
	// A jump to chain a weighs 1 + 5, one to chain b 1 + 5 * 6.
	list := append(append([]string{"chain a"}, repeated(5, "drop")...), "chain b")
	list = append(append(list, repeated(5, "jump a")...), "chain "+name)
	for weight >= 31 {
		list = append(list, "jump b")
		weight -= 31
	}
	for weight >= 6 {
		list = append(list, "jump a")
		weight -= 6
	}
	for range weight {
		list = append(list, "drop")
	}
	return list
}

func TestP22_2Weights(t *testing.T) {
	for _, name := range []string{"in", "out"} {
		for weight := 1; weight <= 300; weight++ {
			if weight <= 256 {
				taken(t, heavy(name, weight)...)
				continue
			}
			refused(t, lines(heavy(name, weight)...), 0, api.ErrFull)
			refused(t, lines(append(heavy(name, weight), "chain zz", "jump "+name)...), 0, api.ErrFull)
			taken(t, heavy("other", weight)...)
			taken(t, append(heavy("other", weight), "chain in", "drop", "chain out", "jump in")...)
			refused(t, lines(append(heavy("other", weight), "chain "+name, "jump other")...), 0, api.ErrFull)
		}
		// The jump into the chain counts too.
		taken(t, append(heavy("other", 255), "chain "+name, "jump other")...)
		refused(t, lines(append(heavy("other", 256), "chain "+name, "jump other")...), 0, api.ErrFull)
		refused(t, lines(append(heavy("other", 255), "chain "+name, "jump other", "drop")...), 0, api.ErrFull)
	}
	// Both are asked, each for itself.
	taken(t, append(heavy("in", 256), "chain out", "jump b", "jump b")...)
	taken(t, append(heavy("in", 255), "chain out", "jump in")...)
	refused(t, lines(append(heavy("in", 256), "chain out", "jump in")...), 0, api.ErrFull)
	refused(t, lines(append(heavy("in", 250), "chain out", "drop", "jump b", "jump b", "jump b", "jump b", "jump b", "jump b", "jump b", "jump b", "jump b")...), 0, api.ErrFull)
}

// What stands ahead of a weight that is too great is told first.
func TestP22_2WeightsLast(t *testing.T) {
	refused(t, lines(append(heavy("in", 257), "jump x")...), len(heavy("in", 257))+1, api.ErrChain)
	refused(t, lines(append(heavy("in", 257), "jump in")...), len(heavy("in", 257))+1, api.ErrLoop)
	refused(t, lines(append(heavy("in", 257), "x")...), len(heavy("in", 257))+1, api.ErrRule)
}

// Weights that nobody could count to, in chains that packets reach, or do not.
func TestP22_2HugeWeights(t *testing.T) {
	build := func(first string, tail ...string) string {
		var list []string
		for i := range 15 {
			list = append(list, fmt.Sprintf("chain c%d", i))
			list = append(list, repeated(4, fmt.Sprintf("jump c%d", i+1))...)
		}
		list[0] = "chain " + first
		return lines(append(append(list, "chain c15"), tail...)...)
	}
	for _, tail := range [][]string{nil, {"drop"}, {"drop", "drop", "drop", "drop"}} {
		refused(t, build("in", tail...), 0, api.ErrFull)
		refused(t, build("out", tail...), 0, api.ErrFull)
		r, line, err := Parse(build("c0", tail...))
		if r == nil || line != 0 || err != api.OK {
			t.Fatalf("P22.2: Parse = %d, %d", line, err)
		}
		if n := r.chain("c0").weigh(0); n != maxWeight+1 {
			t.Errorf("P22.2: a huge weight was counted to %d", n)
		}
		if action, line := r.Judge(inTCP(1)); action != api.Accept || line != 0 {
			t.Errorf("P22.4: Judge = %d, %d", action, line)
		}
		if list, err := r.Dead(); err != api.OK || len(list) != len(tail) {
			t.Errorf("P22.5: Dead = %v, %d", list, err)
		}
	}
	refused(t, strings.Replace(build("c0"), "chain c15", "chain c15\njump c0", 1), 2, api.ErrLoop)
}

// spoilt is a text with some of its bytes turned to others, taken out or doubled.
func spoilt(r *rand.Rand, text string) string {
	b := []byte(text)
	for range 1 + r.Intn(3) {
		i := r.Intn(len(b))
		switch r.Intn(5) {
		case 0:
			b[i] = byte(r.Intn(256))
		case 1:
			b[i] = pick(r, []byte(" \n#-/.0129atx")...)
		case 2:
			b = append(b[:i], b[i+1:]...)
		case 3:
			b = append(b[:i+1], b[i:]...)
		case 4:
			k := r.Intn(len(b))
			b[i], b[k] = b[k], b[i]
		}
		if len(b) == 0 {
			return ""
		}
	}
	return string(b)
}

// Texts with a fault or none at any place.
func TestP22_2SpoiltTexts(t *testing.T) {
	r := dice()
	seen := map[bool]int{}
	for range 30000 {
		b, ok := asked(t, spoilt(r, web+"\ndefault out reject\nchain out\njump in proto 17 sport 0-9"))
		seen[ok]++
		if ok {
			b.text()
			b.judge(anyMatch(r))
		}
	}
	if seen[true] < 1000 || seen[false] < 1000 {
		t.Errorf("the test's own texts: %v", seen)
	}
}

// Every beginning of a text, and every end.
func TestP22_2CutTexts(t *testing.T) {
	whole := web + "\n"
	for i := range len(whole) + 1 {
		for _, text := range []string{whole[:i], whole[i:]} {
			if b, ok := asked(t, text); ok {
				b.text()
			}
		}
	}
}

// Each byte of a text turned into each other one.
func TestP22_2EachByte(t *testing.T) {
	text := []byte("default in drop\nchain in\njump b-1 to 10.5.2.0/24 state new\nchain b-1\ndrop dport 5-49 proto 17")
	for i := range text {
		was := text[i]
		for c := range 256 {
			text[i] = byte(c)
			asked(t, string(text))
		}
		text[i] = was
	}
}
