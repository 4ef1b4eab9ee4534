package alike

import (
	"slices"
	"testing"
)

func TestGroups(t *testing.T) {
	for _, c := range []struct {
		yes     []bool
		columns [][]int
		want    []int
	}{
		{nil, nil, nil},
		{nil, [][]int{{}, {}}, nil},
		{[]bool{true, false, true}, nil, []int{0, 1, 0}},
		{[]bool{false, false}, [][]int{{1, 0}}, []int{0, 0}},
		// Round twice.
		{[]bool{true, false, true, false}, [][]int{{1, 2, 3, 0}}, []int{0, 1, 0, 1}},
		// What differs only behind two others.
		{[]bool{false, false, false, true}, [][]int{{1, 2, 3, 3}}, []int{0, 1, 2, 3}},
		// By the second column alone.
		{[]bool{false, false, true}, [][]int{{0, 1, 2}, {0, 2, 2}}, []int{0, 1, 2}},
		{[]bool{false, true, false, true, false}, [][]int{{1, 3, 3, 1, 0}, {2, 2, 0, 0, 4}}, []int{0, 1, 0, 1, 2}},
	} {
		if got := Groups(c.yes, c.columns); !slices.Equal(got, c.want) {
			t.Errorf("Groups of %v, %v: %v, not %v", c.yes, c.columns, got, c.want)
		}
	}
}

// A long way, of which the states differ at its end only, and as long a one beside it.
func TestGroupsOfMany(t *testing.T) {
	const n = 20000
	yes, ends := make([]bool, 2*n), make([]int, 2*n)
	for q := range ends {
		ends[q] = min(q+2, 2*n-1)
	}
	yes[2*n-1], yes[2*n-2] = true, true
	for q, g := range Groups(yes, [][]int{ends}) {
		if g != q/2 {
			t.Fatal(q, g)
		}
	}
}
