package auto

import (
	"slices"

	"periscope/dfa"
)

// Groups is, of each state, the number of its group: states are in one, if no text leads from them to unlike ends; numbered as they are first met.
func Groups(d *dfa.Dfa) []int {
	p := oneGroup(d.Len())
	for q := range d.Len() {
		if d.Yes(q) {
			p.mark(q)
		}
	}
	p.split()
	backs := backSteps(d)
	// Each group is looked at once, those that come by a split too: of the two halves one is new and will be looked
	// at, and states that differ by the other half then differ by the new one, or by the whole.
	for g := 0; g < len(p.groups); g++ {
		states := slices.Clone(p.states(g)) // the order is turned by marks and splits
		for _, b := range backs {
			for _, q := range states {
				for from := b.first[q]; from >= 0; from = b.more[from] {
					p.mark(from)
				}
			}
			p.split()
		}
	}
	return numbered(p.of)
}

// numbered is numbers instead of others: 0, 1, and so on, as each is first met.
func numbered(list []int) []int {
	numbers := map[int]int{}
	out := make([]int, len(list))
	for i, old := range list {
		n, ok := numbers[old]
		if !ok {
			n = len(numbers)
			numbers[old] = n
		}
		out[i] = n
	}
	return out
}

// back is the steps by one head, from their ends: first is, of each state, one from which the head leads to it,
// more is, of each state, another one from which it leads to the same; -1: there is none.
type back struct{ first, more []int }

// backSteps is the steps of each head from their ends.
func backSteps(d *dfa.Dfa) []back {
	var out []back
	for _, ends := range columns(d) {
		b := back{make([]int, len(ends)), make([]int, len(ends))}
		for q := range b.first {
			b.first[q] = -1
		}
		for q, end := range ends {
			b.more[q] = b.first[end]
			b.first[end] = q
		}
		out = append(out, b)
	}
	return out
}

// columns is where heads lead to from each state. Of heads that lead everywhere to the same only the first one is
// there, since the others tell nothing more apart.
func columns(d *dfa.Dfa) [][]int {
	var out [][]int
heads:
	for _, h := range d.Heads() {
		ends := make([]int, d.Len())
		for q := range ends {
			ends[q] = d.Step(q, h)
		}
		for _, other := range out {
			if slices.Equal(ends, other) {
				continue heads
			}
		}
		out = append(out, ends)
	}
	return out
}
