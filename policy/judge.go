package policy

import "weft/api"

// Judge tells what becomes of a packet, and which line says so.
func (r *Rules) Judge(m api.Match) (int, int) {
	way := wayOf(m)
	if c := r.begin[way]; c != nil {
		if x := c.decide(m); x != nil {
			return x.action, x.line
		}
	}
	return r.defaults[way], 0
}

// decide leads a packet through a chain, and through those that it jumps to; nil, if no rule there decides.
func (c *chain) decide(m api.Match) *rule {
	for _, x := range c.rules {
		if !x.holds(m) {
			continue
		}
		switch x.action {
		case goBack:
			return nil
		case jump:
			if there := x.to.decide(m); there != nil {
				return there
			}
		default:
			return x
		}
	}
	return nil
}

func (x *rule) holds(m api.Match) bool {
	for i := range x.conditions {
		if holds := x.conditions[i].holds; holds != nil && !holds(m) {
			return false
		}
	}
	return true
}
