// Package alike tells which states have the same texts behind them, of whatever layer's states.
package alike

import "slices"

// Groups is, of each state, the number of its group: states are in one, if no text leads from them to unlike ends;
// numbered as they are first met. What is told of the states is which ones are Yes, and column by column to which one
// each leads by some bytes.
func Groups(yes []bool, columns [][]int) []int {
	p := oneGroup(len(yes))
	for q := range yes {
		if yes[q] {
			p.mark(q)
		}
	}
	p.split()
	backs := backSteps(columns)
	// Each group is looked at once, those that come by a split too: of the two halves one is new and will be looked
	// at, and states that differ by the other half then differ by the new one, or by the whole.
	for g := 0; g < len(p.groups); g++ {
		states := slices.Clone(p.states(g)) // the order is turned by marks and splits
		for _, b := range backs {
			for _, q := range states {
				for from := b.first[q]; from >= 0; from = b.more[from] {
					p.mark(from)
				}
			}
			p.split()
		}
	}
	return numbered(p.of)
}

// numbered is numbers instead of others: 0, 1, and so on, as each is first met.
func numbered(list []int) []int {
	numbers := map[int]int{}
	out := make([]int, len(list))
	for i, old := range list {
		n, ok := numbers[old]
		if !ok {
			n = len(numbers)
			numbers[old] = n
		}
		out[i] = n
	}
	return out
}

// back is the steps of one column, from their ends: first is, of each state, one that leads to it, more is, of each
// state, another one that leads to the same; -1: there is none.
type back struct{ first, more []int }

// backSteps is the steps of each column from their ends.
func backSteps(columns [][]int) []back {
	var out []back
	for _, ends := range columns {
		b := back{make([]int, len(ends)), make([]int, len(ends))}
		for q := range b.first {
			b.first[q] = -1
		}
		for q, end := range ends {
			b.more[q] = b.first[end]
			b.first[end] = q
		}
		out = append(out, b)
	}
	return out
}
