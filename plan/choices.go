package plan

import "diptych/api"

const maxWidth = 8

// choices are options, and what they make of a plan.
type choices struct {
	api.Options
	plan api.Plan
	bgps []bgp // of the plan, as they are met
}

// bgp tells the i-th PBgp, and whether there is one.
func (c choices) bgp(i int) (bgp, bool) {
	if !isIn(i, 0, len(c.bgps)-1) {
		return nil, false
	}
	return c.bgps[i], true
}

func isIn(n, least, greatest int) bool {
	return n >= least && n <= greatest
}
