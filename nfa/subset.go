package nfa

import (
	"periscope/api"
	"periscope/dfa"
	"periscope/part"
	"periscope/set"
	"periscope/table"
	"periscope/walk"
)

// Subset is the Table whose states are sets of an Nfa's.
func Subset(n Nfa, b *dfa.Budget) (table.Table, api.Errno) {
	if !n.Valid() {
		return table.Table{}, api.ErrArg
	}
	parts := part.Refine(n.sets()...)
	arrows := n.arrows(parts)
	row := func(from crowd) []crowd {
		out := make([]crowd, len(parts))
		for q := range from.all() {
			for _, a := range arrows[q] {
				for _, p := range a.parts {
					out[p].add(a.to)
				}
			}
		}
		for p := range out {
			n.spread(&out[p])
		}
		return out
	}
	states, next, e := walk.From(n.closed(n.Starts), row, b)
	if e != api.OK {
		return table.Table{}, e
	}
	t := table.Table{Parts: parts, Next: next}
	for _, c := range states {
		t.Yes = append(t.Yes, n.ends(c))
	}
	return t, api.OK
}

// sets is the Sets of all Edges, each once: most Nfas have far fewer than Edges.
func (n Nfa) sets() []set.Set {
	var list []set.Set
	met := map[set.Set]struct{}{}
	for _, edges := range n.Edges {
		for _, e := range edges {
			if _, ok := met[e.Set]; !ok {
				met[e.Set] = struct{}{}
				list = append(list, e.Set)
			}
		}
	}
	return list
}

// arrow is an Edge, with the numbers of the Parts that its Set is made of.
type arrow struct {
	parts []int
	to    int
}

// arrows is the Edges of each state. Which Parts a Set is made of is found out once for all that have it.
func (n Nfa) arrows(parts []set.Set) [][]arrow {
	known := map[set.Set][]int{}
	within := func(s set.Set) []int {
		list, ok := known[s]
		if !ok {
			for i, p := range parts {
				if !p.And(s).Empty() {
					list = append(list, i)
				}
			}
			known[s] = list
		}
		return list
	}
	out := make([][]arrow, len(n.Edges))
	for q, edges := range n.Edges {
		for _, e := range edges {
			out[q] = append(out[q], arrow{within(e.Set), e.To})
		}
	}
	return out
}
