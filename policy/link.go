package policy

import "weft/api"

// chain is the chain of that name; nil, if there is none.
func (r *Rules) chain(name string) *chain {
	for _, c := range r.chains {
		if c.name == name {
			return c
		}
	}
	return nil
}

// link ties the jumps to their chains; it tells the line of the first that may not be.
func (p *reader) link() (int, api.Errno) {
	for _, j := range p.jumps {
		j.rule.to = p.policy.chain(j.name)
		if j.rule.to == nil {
			return j.rule.line, api.ErrChain
		}
	}
	reach := p.reach()
	for _, j := range p.jumps {
		if reach[j.rule.to.number][j.from.number] {
			return j.rule.line, api.ErrLoop
		}
	}
	return 0, api.OK
}

// reach tells for each two chains whether jumps lead from the one to the other.
func (p *reader) reach() [maxChains][maxChains]bool {
	var reach [maxChains][maxChains]bool
	for _, j := range p.jumps {
		reach[j.from.number][j.rule.to.number] = true
	}
	// What leads on through one chain more, for each chain in turn.
	for by := range maxChains {
		for from := range maxChains {
			for to := range maxChains {
				reach[from][to] = reach[from][to] || reach[from][by] && reach[by][to]
			}
		}
	}
	return reach
}

// isHeavy tells whether a packet's way through the rules may be too long.
func (r *Rules) isHeavy() bool {
	for _, c := range r.begin {
		if c != nil && c.weigh(0) > maxWeight {
			return true
		}
	}
	return false
}

// weigh adds a chain's weight to another. It stops above the greatest one that may be, as the whole weight can be so great that nobody could count to it.
func (c *chain) weigh(weight int) int {
	for _, x := range c.rules {
		if weight > maxWeight {
			break
		}
		weight++
		if x.action == jump {
			weight = x.to.weigh(weight)
		}
	}
	return weight
}
