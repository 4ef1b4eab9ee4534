package walk

import (
	"slices"
	"testing"

	"periscope/api"
	"periscope/dfa"
)

func TestFrom(t *testing.T) {
	rows := map[string][]string{"x": {"z", "x", "y"}, "y": {"y", "w", "y"}, "z": {"w", "w", "z"}, "w": {"x", "w", "w"}, "v": {"x", "y", "z"}}
	list, next, e := From("x", func(s string) []string { return rows[s] }, dfa.Grant(4))
	if e != api.OK || !slices.Equal(list, []string{"x", "z", "y", "w"}) {
		t.Fatal(e, list)
	}
	for i, want := range [][]int{{1, 0, 2}, {3, 3, 1}, {2, 3, 2}, {0, 3, 3}} {
		if !slices.Equal(next[i], want) {
			t.Error(i, next[i], want)
		}
	}
	for k := range 4 {
		b := dfa.Grant(k)
		if list, next, e := From("x", func(s string) []string { return rows[s] }, b); e != api.ErrBudget || list != nil || next != nil || b.Used() != k {
			t.Error(k, "granted:", e, b.Used())
		}
	}
	if _, _, e := From(7, func(int) []int { return nil }, nil); e != api.ErrBudget {
		t.Error("no budget:", e)
	}
	if list, next, e := From(7, func(int) []int { return nil }, dfa.Grant(1)); e != api.OK || len(list) != 1 || len(next) != 1 || len(next[0]) != 0 {
		t.Error("no way on:", e, list, next)
	}
}

func TestFromMany(t *testing.T) {
	ring := func(n int) func(int) []int { return func(q int) []int { return []int{(q + 1) % n} } }
	b := dfa.Grant(10000)
	if list, _, e := From(0, ring(api.MaxStates), b); e != api.OK || len(list) != api.MaxStates || b.Used() != api.MaxStates {
		t.Error("as many as may be:", e)
	}
	for _, granted := range []int{10000, api.MaxStates} {
		b := dfa.Grant(granted)
		if list, next, e := From(0, ring(api.MaxStates+1), b); e != api.ErrMany || list != nil || next != nil || b.Used() != api.MaxStates {
			t.Error(granted, "granted:", e, b.Used())
		}
	}
}
