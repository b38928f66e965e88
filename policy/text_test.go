package policy

import (
	"fmt"
	"strings"
	"testing"

	"weft/api"
)

// P22.1: what a text says, and what none may say.

func TestP22_1LinesAndTheirNumbers(t *testing.T) {
	for _, c := range []struct {
		text string
		line int // of the rule that decides all that comes in
	}{
		{"chain in\ndrop", 2},
		{"chain in\ndrop\n", 2},
		{"chain in\ndrop\n\n\n", 2},
		{"\nchain in\n\ndrop", 4},
		{"\n\n\n\nchain in\ndrop\n", 6},
		{" \nchain in\n   \n#\ndrop", 5},
		{"#\n #\n  # chain in\n#drop\nchain in\ndrop", 6},
		{"# \t\r\x00\xff\xc3\nchain in\ndrop", 3},
		{"#chain in\n##\n#\xe2\x80\xa8drop\nchain in\n#accept\ndrop\naccept", 6},
	} {
		taken(t, c.text).judges(inTCP(5), api.Drop, c.line)
	}
	for _, text := range []string{"", "\n", " ", "  \n", "#", "# x\n", "\n\n \n#\n"} {
		b := taken(t, text).judges(inTCP(5), api.Accept, 0).judges(match(true, true, 1, 2, 3, 4, 5), api.Accept, 0)
		if got := b.text(); got != "default in accept\ndefault out accept\n" {
			t.Errorf("P22.3: Text of %q = %q", text, got)
		}
	}
}

func TestP22_1Blanks(t *testing.T) {
	want := taken(t, "default in drop", "chain in", "jump b from 10.0.0.0/8 state new", "chain b", "drop").text()
	for _, between := range []string{" ", "  ", "     "} {
		for _, around := range []string{"", " ", "    "} {
			var list []string
			for _, line := range []string{"default in drop", "chain in", "jump b from 10.0.0.0/8 state new", "chain b", "drop"} {
				list = append(list, around+strings.ReplaceAll(line, " ", between)+around)
			}
			if got := taken(t, list...).text(); got != want {
				t.Errorf("P22.1: Text = %q", got)
			}
		}
	}
}

// Any byte but the newline and the blank belongs to a word.
func TestP22_1BytesOfWords(t *testing.T) {
	for c := range 256 {
		s := string([]byte{byte(c)})
		if s == "\n" || s == " " {
			taken(t, "chain in", "drop"+s+s).judges(inTCP(1), api.Drop, 2)
			continue
		}
		if s != "#" {
			refused(t, lines("chain in", s), 2, api.ErrRule)
			refused(t, lines("chain in", s+"drop"), 2, api.ErrRule)
			refused(t, lines("chain in", s+" drop"), 2, api.ErrRule)
		}
		refused(t, lines("chain in", "drop"+s), 2, api.ErrRule)
		refused(t, lines("chain in", "drop "+s), 2, api.ErrRule)
		refused(t, lines("chain in", "drop"+s+"state new"), 2, api.ErrRule)
		refused(t, lines("chain in", "drop state"+s+"new"), 2, api.ErrRule)
		refused(t, lines("chain in", "drop state new"+s), 2, api.ErrRule)
		refused(t, "chain"+s+"in", 1, api.ErrRule)
		refused(t, "default in"+s+"drop", 1, api.ErrRule)
		taken(t, "chain in", "#"+s+"drop", "drop").judges(inTCP(1), api.Drop, 3)
	}
	for _, s := range []string{"\u00a0", "\u2003", "\u2028", "\u3000", "\u0085", "\ufeff", "\xc0\xa0", "\xc2", "\xe2\x80", "\xf0\x90\x80"} {
		refused(t, lines("chain in", s), 2, api.ErrRule)
		refused(t, lines("chain in", "drop"+s), 2, api.ErrRule)
		refused(t, lines("chain in", "drop "+s), 2, api.ErrRule)
		refused(t, lines("chain in", "drop state "+s+" new"), 2, api.ErrRule)
	}
	refused(t, "chain in\r\ndrop\r\n", 1, api.ErrRule)
	refused(t, "chain in\ndrop\r\n", 2, api.ErrRule)
	refused(t, "chain in\n\r\ndrop\n", 2, api.ErrRule)
	refused(t, "chain in\n\t\ndrop\n", 2, api.ErrRule)
}

// Each first word with too few words and with too many.
func TestP22_1TooFewTooMany(t *testing.T) {
	for _, line := range []string{
		"default", "default in", "default out", "default drop", "default in in", "default drop in", "default in drop drop", "default in drop #", "default in out drop", "default in drop state new", "default  in",
		"chain", "chain a a", "chain a #", "chain a drop", "chain in out", "chain a\x00",
		"accept x", "drop x", "reject x", "return x", "accept #", "accept accept", "accept drop", "accept state new x", "accept state new state", "accept new", "accept state",
		"jump", "jump a x", "jump a a", "jump a state", "jump state new", "jump a state new from", "jump from 10.0.0.0/8", "jump #",
		"accept from", "accept to", "accept proto", "accept sport", "accept dport", "accept from to", "accept from 10.0.0.0/8 to", "accept from to 10.0.0.0/8", "accept from 10.0.0.0/8 11.0.0.0/8", "accept 10.0.0.0/8", "accept tcp", "accept proto tcp udp", "accept sport 1 2", "accept sport 1 - 2", "accept sport 1- 2",
	} {
		refused(t, lines("chain b", line), 2, api.ErrRule)
		refused(t, lines("chain b", "  "+line+"  ", "chain a"), 2, api.ErrRule)
	}
}

func TestP22_1FirstWords(t *testing.T) {
	for _, word := range []string{"allow", "Accept", "ACCEPT", "accep", "acceptt", "accepts", "Drop", "dropp", "dro", "Reject", "jumpp", "Jump", "goto", "Return", "returns", "Chain", "chains", "Default", "defaults", "from", "to", "proto", "sport", "dport", "state", "in", "out", "tcp", "new", "known", "a", "0", "-", "//", ";", "'#", "default#", "chain#"} {
		refused(t, word, 1, api.ErrRule)
		refused(t, lines("chain a", word), 2, api.ErrRule)
		refused(t, lines("chain a", word+" a"), 2, api.ErrRule)
		refused(t, lines("chain a", word+" in drop"), 2, api.ErrRule)
		refused(t, lines("chain a", word+" state new"), 2, api.ErrRule)
	}
}

func TestP22_1Names(t *testing.T) {
	good := []string{"a", "z", "a0", "a-", "a--", "z9", "abcdefghijklmnop", "a-23456789012345", "in", "out", "chain", "default", "accept", "drop", "jump", "from", "to", "proto", "tcp", "state", "new", "inn", "i-n", "a0z9-"}
	for _, name := range good {
		b := taken(t, "chain "+name, "drop", "chain zz", "jump "+name)
		if want := "default in accept\ndefault out accept\nchain " + name + "\ndrop\nchain zz\njump " + name + "\n"; b.text() != want {
			t.Errorf("P22.3: Text = %q, want %q", b.text(), want)
		}
	}
	bad := []string{"A", "aB", "IN", "In", "0", "0a", "9", "-", "-a", "a_b", "a.b", "a,", "a/b", "_", "abcdefghijklmnopq", "a-234567890123456", strings.Repeat("a", 17), strings.Repeat("a", 300), "\u00e4", "a\u00e4", "a\xff", "\xff", "a\t", "\ta", "a\r", "a\x00", "a#", "#", "#a", "{", "`", "a`", "a{", "@", "[", ":", "a:", "a/"}
	for _, name := range bad {
		refused(t, "chain "+name, 1, api.ErrRule)
		refused(t, lines("chain zz", "jump "+name), 2, api.ErrRule)
		refused(t, lines("chain zz", "jump "+name+" state new"), 2, api.ErrRule)
	}
	for c := range 256 {
		if c == '\n' || c == ' ' {
			continue
		}
		first, second := string([]byte{byte(c)}), "a"+string([]byte{byte(c)})
		letter := c >= 'a' && c <= 'z'
		for name, ok := range map[string]bool{first: letter, second: letter || c >= '0' && c <= '9' || c == '-'} {
			if b, got := asked(t, "chain "+name); got != ok {
				t.Errorf("P22.1: chain %q: %v", name, b.r != nil)
			}
		}
	}
	if isName("") {
		t.Error("P22.1: the empty text is a name")
	}
	refused(t, "chain ", 1, api.ErrRule)
	refused(t, "chain a\njump ", 2, api.ErrRule)
}

// permuted gives all orders of a list to a function.
func permuted(list []string, give func([]string)) {
	var place func(n int)
	place = func(n int) {
		if n == len(list) {
			give(list)
			return
		}
		for i := n; i < len(list); i++ {
			list[n], list[i] = list[i], list[n]
			place(n + 1)
			list[n], list[i] = list[i], list[n]
		}
	}
	place(0)
}

var sixConditions = []string{"from 10.0.0.0/8", "to 10.5.2.2/32", "proto tcp", "sport 5-6", "dport 7", "state known"}

// The conditions may stand in any order, and any of them may be missing.
func TestP22_1ConditionsInEveryOrder(t *testing.T) {
	for set := range 64 {
		var list []string
		for i, c := range sixConditions {
			if set>>i&1 == 1 {
				list = append(list, c)
			}
		}
		want := strings.Join(append([]string{"default in accept\ndefault out accept\nchain in\nreject"}, list...), " ") + "\n"
		permuted(list, func(list []string) {
			b := taken(t, "chain in", strings.Join(append([]string{"reject"}, list...), " "))
			if got := b.text(); got != want {
				t.Fatalf("P22.3: Text = %q, want %q", got, want)
			}
		})
	}
}

func TestP22_1ConditionsTwice(t *testing.T) {
	others := []string{"from 0.0.0.0/0", "to 10.0.0.0/8", "proto 17", "sport 9", "dport 0-65535", "state new"}
	for i, c := range sixConditions {
		for _, twice := range []string{c, others[i]} {
			for _, action := range []string{"accept", "drop", "reject", "return", "jump b"} {
				refused(t, lines("chain b", action+" "+c+" "+twice), 2, api.ErrRule)
				refused(t, lines("chain b", action+" "+c+" "+sixConditions[(i+1)%6]+" "+twice), 2, api.ErrRule)
				refused(t, lines("chain b", action+" "+strings.Join(sixConditions, " ")+" "+twice), 2, api.ErrRule)
			}
		}
	}
}

func TestP22_1Prefixes(t *testing.T) {
	for _, on := range []string{"from", "to"} {
		for n := 0; n <= 32; n++ {
			base := quad(170, 85, 240, 15) &^ api.Addr(1<<(32-n)-1)
			if n == 0 {
				base = 0
			}
			word := fmt.Sprintf("%d.%d.%d.%d/%d", base>>24, base>>16&255, base>>8&255, base&255, n)
			b := taken(t, "chain in", "drop "+on+" "+word, "chain out", "accept "+on+" 0.0.0.0/0")
			if !strings.Contains(b.text(), "drop "+on+" "+word+"\n") {
				t.Errorf("P22.3: Text = %q", b.text())
			}
			last := base + api.Addr(uint64(1)<<(32-n)-1)
			for _, a := range []api.Addr{base - 1, base, base + 1, last - 1, last, last + 1, 0, 1<<32 - 1, ^base} {
				b.judge(match(false, false, a, ^a, 0, 0, 0))
				b.judge(match(false, true, ^a, a, 6, 1, 1))
				b.judges(match(true, true, a, a, 17, 1, 1), api.Accept, 4)
			}
		}
		for _, word := range []string{"10.0.0.0", "10.0.0.0/", "/8", "/", "10.0.0.0/33", "10.0.0.0/08", "10.0.0.0/+8", "10.0.0.0/-8", "10.0.0.0/8/8", "10.0.0.1/8", "10.0.0.1/31", "0.0.0.1/0", "128.0.0.0/0", "10.0.0/8", "10.0.0.0.0/8", "10.0.0.256/32", "10.0.0.00/8", "010.0.0.0/8", "10..0.0/8", "a/8", "10.0.0.0/a", "10.0.0.0\\8", "10.0.0.0-10.0.0.5", "::/0", "any", "10.0.0.0/8,11.0.0.0/8", "!10.0.0.0/8", "10.0.0.0/99999999999999999999"} {
			refused(t, lines("chain in", "drop "+on+" "+word), 2, api.ErrRule)
		}
	}
}

func TestP22_1Protocols(t *testing.T) {
	words := map[int]string{1: "icmp", 6: "tcp", 17: "udp"}
	for n := range 256 {
		number := fmt.Sprint(n)
		for _, word := range []string{number, words[n]} {
			if word == "" {
				continue
			}
			want := word
			if words[n] != "" {
				want = words[n]
			}
			b := taken(t, "chain in", "drop proto "+word)
			if !strings.HasSuffix(b.text(), "\ndrop proto "+want+"\n") {
				t.Errorf("P22.3: Text = %q", b.text())
			}
			for k := range 256 {
				if _, line := b.judge(match(false, k%3 == 0, 1, 2, byte(k), 3, 4)); (line == 2) != (k == n) {
					t.Errorf("P22.1: proto %s and protocol %d: line %d", word, k, line)
				}
			}
		}
		refused(t, lines("chain in", "drop proto 0"+number), 2, api.ErrRule)
		refused(t, lines("chain in", "drop proto +"+number), 2, api.ErrRule)
		refused(t, lines("chain in", "drop proto -"+number), 2, api.ErrRule)
		refused(t, lines("chain in", "drop proto "+number+"-"+number), 2, api.ErrRule)
	}
	for _, word := range []string{"256", "257", "262", "1000", "2550", "65542", "4294967302", "18446744073709551622", "36893488147419103238", "TCP", "Tcp", "tcp6", "udp4", "ICMP", "icmpv6", "ip", "tc", "t", "6x", "x6", "0x6", "6.", "6,17", "tcp,udp", "\u0666", "6\xff", "1e1", "--6", "any", "all"} {
		refused(t, lines("chain in", "drop proto "+word), 2, api.ErrRule)
	}
}

func TestP22_1Ports(t *testing.T) {
	edges := []int{0, 1, 2, 9, 10, 79, 80, 443, 65534, 65535}
	for _, on := range []string{"sport", "dport"} {
		for _, n := range edges {
			for _, k := range edges {
				word := fmt.Sprintf("%d-%d", n, k)
				if n > k {
					refused(t, lines("chain in", "drop "+on+" "+word), 2, api.ErrRule)
					continue
				}
				b := taken(t, "chain in", "drop "+on+" "+word)
				if n == k {
					word = fmt.Sprint(n)
					if text := taken(t, "chain in", "drop "+on+" "+word).text(); text != b.text() {
						t.Errorf("P22.3: Text = %q", text)
					}
				}
				if !strings.HasSuffix(b.text(), "\ndrop "+on+" "+word+"\n") {
					t.Errorf("P22.3: Text = %q", b.text())
				}
				for _, p := range edges {
					for _, d := range []int{-1, 0, 1} {
						port := uint16(p + d)
						for _, proto := range []byte{6, 17, 1, 0, 5, 7, 16, 18, 255} {
							b.judge(match(false, false, 1, 2, proto, port, port))
							b.judge(match(false, false, 1, 2, proto, port, 77))
							b.judge(match(false, true, 1, 2, proto, 77, port))
						}
					}
				}
			}
		}
		for _, word := range []string{"65536", "0-65536", "65536-65536", "65535-65536", "99999", "100000", "131072", "4294967296", "4294967376", "18446744073709551616", "18446744073709551696", "0-18446744073709551616", "01", "00", "080", "0-01", "00-1", "01-2", "1-", "-1", "-", "--", "1--2", "1-2-", "-1-2", "1-2-3", "5-4", "65535-0", "1-0", "+1", "+1-2", "1-+2", "1.", "1..2", "1:2", "1,2", "1_000", "0x50", "1e3", "http", "a-b", "1-b", "a-1", "1-2x", "80\xff", "\uff11", "1\u20132", "8\t0"} {
			refused(t, lines("chain in", "drop "+on+" "+word), 2, api.ErrRule)
		}
	}
}

func TestP22_1States(t *testing.T) {
	b := taken(t, "chain in", "drop state new", "reject state known")
	for _, known := range []bool{false, true} {
		for _, proto := range []byte{0, 6, 17, 255} {
			action, line := api.Drop, 2
			if known {
				action, line = api.Reject, 3
			}
			b.judges(match(false, known, 1, 2, proto, 5, 6), action, line)
			b.judges(match(true, known, 1, 2, proto, 5, 6), api.Accept, 0)
		}
	}
	for _, word := range []string{"any", "New", "NEW", "Known", "news", "ne", "knownn", "know", "established", "0", "1", "true", "in", "tcp", "new,known", "-"} {
		refused(t, lines("chain in", "drop state "+word), 2, api.ErrRule)
	}
}

func TestP22_1Defaults(t *testing.T) {
	numbers := map[string]int{"accept": api.Accept, "drop": api.Drop, "reject": api.Reject, "": api.Accept}
	for _, in := range []string{"accept", "drop", "reject", ""} {
		for _, out := range []string{"accept", "drop", "reject", ""} {
			var list []string
			if in != "" {
				list = append(list, "default in "+in)
			}
			if out != "" {
				list = append(list, "default out "+out)
			}
			permuted(list, func(list []string) {
				for _, text := range []string{lines(list...), lines(append([]string{"chain in", "accept from 1.1.1.1/32"}, list...)...), lines(append(list, "chain in", "chain out", "return")...)} {
					taken(t, text).judges(inTCP(1), numbers[in], 0).judges(match(true, true, 9, 9, 9, 9, 9), numbers[out], 0)
				}
			})
		}
	}
	for _, way := range []string{"in", "out"} {
		other := map[string]string{"in": "out", "out": "in"}[way]
		for _, a := range []string{"accept", "drop", "reject"} {
			for _, b := range []string{"accept", "drop", "reject"} {
				refused(t, lines("default "+way+" "+a, "default "+way+" "+b), 2, api.ErrRule)
				refused(t, lines("default "+way+" "+a, "default "+other+" drop", "chain in", "drop", "default "+way+" "+b), 5, api.ErrRule)
				taken(t, "default "+way+" "+a, "default "+other+" "+b)
			}
		}
		for _, a := range []string{"jump", "return", "Accept", "deny", "in", "out", "jump in", "new", "0", "1", "-"} {
			refused(t, "default "+way+" "+a, 1, api.ErrRule)
		}
	}
	for _, way := range []string{"forward", "In", "OUT", "i", "inn", "both", "all", "a", "web", "0", "1"} {
		refused(t, lines("chain web", "default "+way+" drop"), 2, api.ErrRule)
	}
}

// A rule needs a chain ahead of it, and belongs to the last one.
func TestP22_1RulesOfChains(t *testing.T) {
	for _, a := range []string{"accept", "drop", "reject", "return", "jump in", "jump x", "accept state new"} {
		refused(t, a, 1, api.ErrRule)
		refused(t, lines("default in drop", "#", "", a, "chain in"), 4, api.ErrRule)
	}
	b := taken(t, "chain a", "drop", "chain in", "chain b", "accept", "default out reject", "reject", "chain out", "drop state known", "default in drop")
	b.judges(inTCP(3), api.Drop, 0).judges(match(true, true, 1, 1, 1, 1, 1), api.Drop, 9).judges(match(true, false, 1, 1, 1, 1, 1), api.Reject, 0)
	want := "default in drop\ndefault out reject\nchain a\ndrop\nchain in\nchain b\naccept\nreject\nchain out\ndrop state known\n"
	if b.text() != want {
		t.Errorf("P22.3: Text = %q", b.text())
	}
}
