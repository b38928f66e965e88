package policy

import (
	"fmt"
	"net/netip"
	"regexp"
	"slices"
	"strconv"
	"strings"

	"weft/api"
)

// The chapter in other words: lines are held against regular expressions, conditions stay numbers, and a packet goes through the chains with a stack of what is left of each.

const (
	nameForm      = `[a-z][a-z0-9-]{0,15}`
	numberForm    = `(?:0|[1-9][0-9]{0,5})`
	conditionForm = `(?: (?:from|to|proto|sport|dport|state) [^ ]+)*`
)

var (
	defaultForm = regexp.MustCompile(`^default (in|out) (accept|drop|reject)$`)
	chainForm   = regexp.MustCompile(`^chain (` + nameForm + `)$`)
	ruleForm    = regexp.MustCompile(`^(accept|drop|reject|return|jump (` + nameForm + `))(` + conditionForm + `)$`)
	protoForm   = regexp.MustCompile(`^(?:tcp|udp|icmp|` + numberForm + `)$`)
	portForm    = regexp.MustCompile(`^(` + numberForm + `)(?:-(` + numberForm + `))?$`)
)

// conditionOrder is the order of a rule's conditions in the canonical text.
var conditionOrder = []string{"from", "to", "proto", "sport", "dport", "state"}

// modelCondition is the least and the greatest number that a condition takes, and its canonical word.
type modelCondition struct {
	least, most uint64
	word        string
}

type modelRule struct {
	line       int
	chain      string
	action     string
	target     string
	conditions map[string]modelCondition
}

type modelPolicy struct {
	defaults map[string]string
	chains   []string
	rules    []modelRule
}

func modelParse(text string) (*modelPolicy, int, api.Errno) {
	if len(text) > 16384 {
		return nil, 0, api.ErrLong
	}
	p := &modelPolicy{defaults: map[string]string{}}
	number := 0
	for rest, more := text, true; more; {
		var line string
		line, rest, more = strings.Cut(rest, "\n")
		number++
		if err := p.take(number, oneBlank(line)); err != api.OK {
			return nil, number, err
		}
	}
	if line, err := p.judgeJumps(); err != api.OK {
		return nil, line, err
	}
	if p.weight("in") > 256 || p.weight("out") > 256 {
		return nil, 0, api.ErrFull
	}
	return p, 0, api.OK
}

// oneBlank is a line with one blank between each two words, and none around them.
func oneBlank(line string) string {
	return strings.Trim(regexp.MustCompile(` +`).ReplaceAllString(line, " "), " ")
}

func (p *modelPolicy) take(number int, line string) api.Errno {
	if line == "" || line[0] == '#' {
		return api.OK
	}
	if m := defaultForm.FindStringSubmatch(line); m != nil {
		if p.defaults[m[1]] != "" {
			return api.ErrRule
		}
		p.defaults[m[1]] = m[2]
		return api.OK
	}
	if m := chainForm.FindStringSubmatch(line); m != nil {
		if slices.Contains(p.chains, m[1]) {
			return api.ErrChain
		}
		if len(p.chains) >= 16 {
			return api.ErrFull
		}
		p.chains = append(p.chains, m[1])
		return api.OK
	}
	m := ruleForm.FindStringSubmatch(line)
	if m == nil || len(p.chains) == 0 {
		return api.ErrRule
	}
	x := modelRule{line: number, chain: p.chains[len(p.chains)-1], action: strings.Fields(m[1])[0], target: m[2], conditions: map[string]modelCondition{}}
	words := strings.Split(strings.TrimPrefix(m[3], " "), " ")
	for i := 0; i+1 < len(words); i += 2 {
		c, ok := modelRead(words[i], words[i+1])
		if _, twice := x.conditions[words[i]]; twice || !ok {
			return api.ErrRule
		}
		x.conditions[words[i]] = c
	}
	if len(p.rules) >= 64 {
		return api.ErrFull
	}
	p.rules = append(p.rules, x)
	return api.OK
}

func modelRead(on, word string) (modelCondition, bool) {
	switch on {
	case "from", "to":
		q, err := netip.ParsePrefix(word)
		if err != nil || !q.Addr().Is4() || q.Masked() != q || q.String() != word {
			return modelCondition{}, false
		}
		b := q.Addr().As4()
		first := uint64(b[0])<<24 + uint64(b[1])<<16 + uint64(b[2])<<8 + uint64(b[3])
		return modelCondition{first, first + 1<<(32-q.Bits()) - 1, word}, true
	case "proto":
		named := map[string]string{"6": "tcp", "17": "udp", "1": "icmp"}
		for n, name := range named {
			if word == name {
				word = n
			}
		}
		n, _ := strconv.Atoi(word)
		if !protoForm.MatchString(word) || n > 255 {
			return modelCondition{}, false
		}
		if named[word] != "" {
			word = named[word]
		}
		return modelCondition{uint64(n), uint64(n), word}, true
	case "sport", "dport":
		m := portForm.FindStringSubmatch(word)
		if m == nil {
			return modelCondition{}, false
		}
		if m[2] == "" {
			m[2] = m[1]
		}
		n, _ := strconv.ParseUint(m[1], 10, 64)
		k, _ := strconv.ParseUint(m[2], 10, 64)
		if n > k || k > 65535 {
			return modelCondition{}, false
		}
		if n == k {
			word = m[1]
		}
		return modelCondition{n, k, word}, true
	}
	n := slices.Index([]string{"new", "known"}, word)
	return modelCondition{uint64(n), uint64(n), word}, n >= 0
}

func (p *modelPolicy) judgeJumps() (int, api.Errno) {
	for _, x := range p.rules {
		if x.action == "jump" && !slices.Contains(p.chains, x.target) {
			return x.line, api.ErrChain
		}
	}
	for _, x := range p.rules {
		if x.action == "jump" && slices.Contains(p.reached(x.target), x.chain) {
			return x.line, api.ErrLoop
		}
	}
	return 0, api.OK
}

// reached is the chain itself and all those that jumps lead to from it.
func (p *modelPolicy) reached(from string) []string {
	list := []string{from}
	for i := 0; i < len(list); i++ {
		for _, x := range p.rules {
			if x.chain == list[i] && x.action == "jump" && !slices.Contains(list, x.target) {
				list = append(list, x.target)
			}
		}
	}
	return list
}

// weight is that of a chain, but no more than 257.
func (p *modelPolicy) weight(chain string) int {
	n := 0
	for _, x := range p.rules {
		if x.chain == chain && n <= 256 {
			n++
			if x.action == "jump" {
				n += p.weight(x.target)
			}
		}
	}
	return min(n, 257)
}

func (p *modelPolicy) text() string {
	s := ""
	for _, way := range []string{"in", "out"} {
		s += "default " + way + " " + p.defaultOf(way) + "\n"
	}
	for _, c := range p.chains {
		s += "chain " + c + "\n"
		for _, x := range p.rules {
			if x.chain == c {
				s += x.text() + "\n"
			}
		}
	}
	return s
}

func (p *modelPolicy) defaultOf(way string) string {
	if p.defaults[way] == "" {
		return "accept"
	}
	return p.defaults[way]
}

func (x modelRule) text() string {
	s := x.action
	if x.target != "" {
		s += " " + x.target
	}
	for _, on := range conditionOrder {
		if c, ok := x.conditions[on]; ok {
			s += " " + on + " " + c.word
		}
	}
	return s
}

// holds tells whether a rule holds: no condition of it fails.
func (x modelRule) holds(m api.Match) bool {
	ported := m.Tuple.Proto == 6 || m.Tuple.Proto == 17
	for on, c := range x.conditions {
		var n uint64
		switch on {
		case "from":
			n = uint64(m.Tuple.Src)
		case "to":
			n = uint64(m.Tuple.Dst)
		case "proto":
			n = uint64(m.Tuple.Proto)
		case "sport":
			n = uint64(m.Tuple.SrcPort)
		case "dport":
			n = uint64(m.Tuple.DstPort)
		case "state":
			if m.Known {
				n = 1
			}
		}
		if n < c.least || n > c.most || !ported && strings.HasSuffix(on, "port") {
			return false
		}
	}
	return true
}

func (p *modelPolicy) rulesOf(chain string) []modelRule {
	var list []modelRule
	for _, x := range p.rules {
		if x.chain == chain {
			list = append(list, x)
		}
	}
	return list
}

var actionNumbers = map[string]int{"accept": api.Accept, "drop": api.Drop, "reject": api.Reject}

func (p *modelPolicy) judge(m api.Match) (int, int) {
	way := "in"
	if m.Out {
		way = "out"
	}
	left := [][]modelRule{p.rulesOf(way)} // of each chain that the packet is in, what is still ahead of it
	for len(left) > 0 {
		top := len(left) - 1
		if len(left[top]) == 0 {
			left = left[:top]
			continue
		}
		x := left[top][0]
		left[top] = left[top][1:]
		if !x.holds(m) {
			continue
		}
		switch x.action {
		case "return":
			left = left[:top]
		case "jump":
			left = append(left, p.rulesOf(x.target))
		default:
			return actionNumbers[x.action], x.line
		}
	}
	return actionNumbers[p.defaultOf(way)], 0
}

// marks is the marks of a field as the chapter says them.
func (p *modelPolicy) marks(on string) []uint64 {
	tops := map[string]uint64{"from": 1<<32 - 1, "to": 1<<32 - 1, "proto": 255, "sport": 65535, "dport": 65535}
	set := map[uint64]bool{0: true}
	for _, x := range p.rules {
		if c, ok := x.conditions[on]; ok {
			set[c.least] = true
			set[c.most+1] = true
		}
		_, s := x.conditions["sport"]
		_, d := x.conditions["dport"]
		if on == "proto" && (s || d) {
			set[6], set[7], set[17], set[18] = true, true, true, true
		}
	}
	var list []uint64
	for n := range set {
		if n <= tops[on] {
			list = append(list, n)
		}
	}
	slices.Sort(list)
	return list
}

func (p *modelPolicy) cells() int {
	n := 1
	for _, on := range conditionOrder[:5] {
		n *= len(p.marks(on))
	}
	return n
}

// deciding is the lines that decide one of the cells' packets at least: of each cell the last packet is asked.
func (p *modelPolicy) deciding() map[int]bool {
	lines := map[int]bool{}
	lasts := map[string][]uint64{}
	for on, top := range map[string]uint64{"from": 1<<32 - 1, "to": 1<<32 - 1, "proto": 255, "sport": 65535, "dport": 65535} {
		marks := p.marks(on)
		for _, n := range marks[1:] {
			lasts[on] = append(lasts[on], n-1)
		}
		lasts[on] = append(lasts[on], top)
	}
	for _, src := range lasts["from"] {
		for _, dst := range lasts["to"] {
			for _, proto := range lasts["proto"] {
				for _, sport := range lasts["sport"] {
					for _, dport := range lasts["dport"] {
						for k := range 4 {
							_, line := p.judge(match(k&1 == 1, k&2 == 2, api.Addr(src), api.Addr(dst), byte(proto), uint16(sport), uint16(dport)))
							lines[line] = true
						}
					}
				}
			}
		}
	}
	return lines
}

// dead is the lines that decide nothing, of those that could.
func (p *modelPolicy) dead() []int {
	deciding := p.deciding()
	var list []int
	for _, x := range p.rules {
		if x.action != "jump" && x.action != "return" && !deciding[x.line] {
			list = append(list, x.line)
		}
	}
	return list
}

func (x modelRule) String() string {
	return fmt.Sprint(x.line, " ", x.text())
}
