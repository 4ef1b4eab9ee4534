// Package walk numbers what can be reached, for all layers that number it the same way.
package walk

import (
	"periscope/api"
	"periscope/dfa"
)

// From numbers all that can be reached from a first thing, which is 0; then, thing by thing, in order, each one of the
// row to which it leads, in order, if it has no number yet, has the next one. It answers them in order, and the
// numbers of each one's row. Each is taken from a budget as it is met: ErrMany ahead of that, if it would be one above
// MaxStates.
func From[S comparable](first S, row func(S) []S, b *dfa.Budget) ([]S, [][]int, api.Errno) {
	var list []S
	numbers := map[S]int{}
	number := func(s S) (int, api.Errno) {
		if n, ok := numbers[s]; ok {
			return n, api.OK
		}
		if len(list) == api.MaxStates {
			return 0, api.ErrMany
		}
		numbers[s] = len(list)
		list = append(list, s)
		return numbers[s], b.Take(1)
	}
	if _, e := number(first); e != api.OK {
		return nil, nil, e
	}
	var next [][]int
	for i := 0; i < len(list); i++ {
		to := row(list[i])
		ends := make([]int, len(to))
		for j := range to {
			n, e := number(to[j])
			if e != api.OK {
				return nil, nil, e
			}
			ends[j] = n
		}
		next = append(next, ends)
	}
	return list, next, api.OK
}
