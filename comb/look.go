package comb

import "bolter/api"

// look goes from default to default: each is a state below, so there is an end.
func look(c api.Comb, state, class int) (entry, probes int) {
probe:
	probes++
	if at := c.Base[state] + class; at < len(c.Check) && c.Check[at] == state {
		return c.Next[at], probes
	}
	if state = c.Default[state]; state != none {
		goto probe
	}
	return none, probes
}
