package policy

import "strings"

// Text writes a policy.
func (r *Rules) Text() string {
	var b strings.Builder
	for way, action := range r.defaults {
		writeLine(&b, wordDefault, wordFor(aWay, way), wordFor(anAction, action))
	}
	for _, c := range r.chains {
		writeLine(&b, wordChain, c.name)
		for _, x := range c.rules {
			writeLine(&b, x.words()...)
		}
	}
	return b.String()
}

func writeLine(b *strings.Builder, words ...string) {
	b.WriteString(strings.Join(words, blank))
	b.WriteString(newline)
}

// words is the words of a rule's line.
func (x *rule) words() []string {
	list := []string{wordFor(anAction, x.action)}
	if x.action == jump {
		list = append(list, x.to.name)
	}
	for on, c := range x.conditions {
		if c.holds != nil {
			list = append(list, wordFor(aCondition, on), c.takes.word(on))
		}
	}
	return list
}
