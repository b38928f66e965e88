package policy

import (
	"strings"

	"weft/api"
)

// A reader is a policy of which the first lines have been read.
type reader struct {
	policy *Rules
	given  [ways]bool // which defaults stood in the text
	rules  int
	jumps  []leap
}

// A leap is a jump whose chain is still a name: it may be begun further down.
type leap struct {
	from *chain
	rule *rule
	name string
}

// Parse reads a policy's text; of an error the line's number too.
func Parse(text string) (*Rules, int, api.Errno) {
	if len(text) > api.MaxText {
		return nil, 0, api.ErrLong
	}
	p := reader{policy: &Rules{defaults: [ways]int{accept, accept}}}
	for i, line := range strings.Split(text, newline) {
		if err := p.read(i+1, wordsOf(line)); err != api.OK {
			return nil, i + 1, err
		}
	}
	if line, err := p.link(); err != api.OK {
		return nil, line, err
	}
	if p.policy.isHeavy() {
		return nil, 0, api.ErrFull
	}
	return p.policy, 0, api.OK
}

func (p *reader) read(line int, words []string) api.Errno {
	if len(words) == 0 || strings.HasPrefix(words[0], note) {
		return api.OK
	}
	switch words[0] {
	case wordDefault:
		return p.readDefault(words[1:])
	case wordChain:
		return p.readChain(words[1:])
	}
	return p.readRule(line, words)
}

func (p *reader) readDefault(words []string) api.Errno {
	if len(words) != 2 {
		return api.ErrRule
	}
	way, isWay := meaning(aWay, words[0])
	action, isAction := meaning(anAction, words[1])
	if !isWay || !isAction || !decisive(action) || p.given[way] {
		return api.ErrRule
	}
	p.given[way] = true
	p.policy.defaults[way] = action
	return api.OK
}

func (p *reader) readChain(words []string) api.Errno {
	if len(words) != 1 || !isName(words[0]) {
		return api.ErrRule
	}
	r := p.policy
	switch {
	case r.chain(words[0]) != nil:
		return api.ErrChain
	case len(r.chains) == maxChains:
		return api.ErrFull
	}
	// A name of its own: else the policy would keep the whole text.
	c := &chain{number: len(r.chains), name: strings.Clone(words[0])}
	r.chains = append(r.chains, c)
	if way, isWay := meaning(aWay, c.name); isWay {
		r.begin[way] = c
	}
	return api.OK
}

func (p *reader) readRule(line int, words []string) api.Errno {
	action, isAction := meaning(anAction, words[0])
	if !isAction || len(p.policy.chains) == 0 {
		return api.ErrRule
	}
	x := &rule{line: line, action: action}
	words = words[1:]
	name := ""
	if action == jump {
		if len(words) == 0 || !isName(words[0]) {
			return api.ErrRule
		}
		name, words = words[0], words[1:]
	}
	if !x.readConditions(words) {
		return api.ErrRule
	}
	if p.rules == maxRules {
		return api.ErrFull
	}
	p.add(x, name)
	return api.OK
}

// readConditions reads what stands behind a rule's action.
func (x *rule) readConditions(words []string) bool {
	if len(words)%2 != 0 {
		return false
	}
	for ; len(words) > 0; words = words[2:] {
		on, isCondition := meaning(aCondition, words[0])
		if !isCondition || x.conditions[on].holds != nil {
			return false
		}
		c, ok := readCondition(on, words[1])
		if !ok {
			return false
		}
		x.conditions[on] = c
	}
	return true
}

// add puts a rule behind all others, and notes the name of the chain that it jumps to.
func (p *reader) add(x *rule, name string) {
	p.rules++
	c := p.policy.chains[len(p.policy.chains)-1]
	c.rules = append(c.rules, x)
	if x.action == jump {
		p.jumps = append(p.jumps, leap{from: c, rule: x, name: name})
	}
}
