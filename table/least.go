package table

import (
	"slices"

	"periscope/alike"
)

// Least is the least Table of the same texts.
func (t Table) Least() Table {
	r := t.Reach()
	groups := alike.Groups(r.Yes, r.columns())
	least := Table{Parts: r.Parts}
	// States are numbered as the least texts meet them that lead to them, and groups by their first states: so groups
	// are numbered as their least texts meet them, which is how Reach would number them.
	for q, g := range groups {
		if g == len(least.Yes) {
			least.Yes = append(least.Yes, r.Yes[q])
			least.Next = append(least.Next, pick(groups, r.Next[q]))
		}
	}
	return least.fewerParts()
}

// fewerParts is a Table in which Parts that lead everywhere to the same are one.
func (t Table) fewerParts() Table {
	columns := t.columns()
	var kept []int // of each new Part the first one of those that it is made of
	fewer := Table{Yes: t.Yes}
	for i, p := range t.Parts {
		same := func(k int) bool { return slices.Equal(columns[k], columns[i]) }
		if n := slices.IndexFunc(kept, same); n >= 0 {
			fewer.Parts[n] = fewer.Parts[n].Or(p)
			continue
		}
		kept = append(kept, i)
		fewer.Parts = append(fewer.Parts, p)
	}
	for _, row := range t.Next {
		fewer.Next = append(fewer.Next, pick(row, kept))
	}
	return fewer
}

// columns is, of each Part, where it leads to from each state.
func (t Table) columns() [][]int {
	out := make([][]int, len(t.Parts))
	for i := range out {
		out[i] = make([]int, len(t.Next))
		for q, row := range t.Next {
			out[i][q] = row[i]
		}
	}
	return out
}

// pick is what stands in a list at some places.
func pick(list, places []int) []int {
	out := make([]int, len(places))
	for i, at := range places {
		out[i] = list[at]
	}
	return out
}
