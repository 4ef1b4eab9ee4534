package auto

import (
	"slices"

	"periscope/alike"
	"periscope/dfa"
)

// Groups is, of each state, the number of its group: states are in one, if no text leads from them to unlike ends; numbered as they are first met.
func Groups(d *dfa.Dfa) []int {
	yes := make([]bool, d.Len())
	for q := range yes {
		yes[q] = d.Yes(q)
	}
	return alike.Groups(yes, columns(d))
}

// columns is where heads lead to from each state. Of heads that lead everywhere to the same only the first one is
// there, since the others tell nothing more apart.
func columns(d *dfa.Dfa) [][]int {
	var out [][]int
heads:
	for _, h := range d.Heads() {
		ends := make([]int, d.Len())
		for q := range ends {
			ends[q] = d.Step(q, h)
		}
		for _, other := range out {
			if slices.Equal(ends, other) {
				continue heads
			}
		}
		out = append(out, ends)
	}
	return out
}
