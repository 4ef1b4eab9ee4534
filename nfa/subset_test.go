package nfa

import (
	"slices"
	"strings"
	"testing"

	"periscope/api"
	"periscope/dfa"
	"periscope/part"
	"periscope/re"
	"periscope/set"
	"periscope/table"
)

// subsetOf is P13.3's words for Subset.
func subsetOf(n Nfa) table.Table {
	var sets []set.Set
	for _, edges := range n.Edges {
		for _, e := range edges {
			sets = append(sets, e.Set)
		}
	}
	t := table.Table{Parts: part.Refine(sets...)}
	list := [][]int{closed(n, n.Starts)}
	number := func(states []int) int {
		return slices.IndexFunc(list, func(other []int) bool { return slices.Equal(states, other) })
	}
	for i := 0; i < len(list); i++ {
		var row []int
		for _, p := range t.Parts {
			var to []int
			for _, q := range list[i] {
				for _, e := range n.Edges[q] {
					if e.Set.And(p) == p {
						to = append(to, e.To)
					}
				}
			}
			to = closed(n, to)
			if number(to) < 0 {
				list = append(list, to)
			}
			row = append(row, number(to))
		}
		t.Next = append(t.Next, row)
		t.Yes = append(t.Yes, slices.ContainsFunc(list[i], func(q int) bool { return n.Yes[q] }))
	}
	return t
}

func TestSubset(t *testing.T) {
	list := texts(headBytes, 3)
	more := 0
	for _, n := range nfas(800) {
		b := dfa.Grant(1000)
		got, e := Subset(n, b)
		if want := subsetOf(n); e != api.OK || !sameTable(got, want) || !got.Valid() || b.Used() != len(want.Yes) {
			t.Fatalf("Subset of %v: %d, %v, not %v", n, e, got, want)
		}
		for _, s := range list {
			if got.Match(s) != has(n, s) {
				t.Fatalf("Subset of %v: %q", n, s)
			}
		}
		if len(got.Yes) > len(n.Yes)+2 {
			more++
		}
	}
	if more < 50 {
		t.Error("few samples:", more)
	}
}

func TestSubsetByHand(t *testing.T) {
	all, a := set.All(), set.Of('a')
	for _, c := range []struct {
		n    Nfa
		want table.Table
	}{
		// Nowhere to begin: one state, that of no states.
		{Nfa{nil, []bool{true}, [][]Edge{nil}, [][]int{nil}}, table.Table{Parts: []set.Set{all}, Next: [][]int{{0}}, Yes: []bool{false}}},
		// Nowhere to go to.
		{Nfa{[]int{0}, []bool{true}, [][]Edge{nil}, [][]int{nil}}, table.Table{Parts: []set.Set{all}, Next: [][]int{{1}, {1}}, Yes: []bool{true, false}}},
		// Sets that no way has still cut all bytes.
		{
			Nfa{[]int{0}, []bool{true, false}, [][]Edge{nil, {{a, 1}}}, [][]int{nil, nil}},
			table.Table{Parts: []set.Set{a.Not(), a}, Next: [][]int{{1, 1}, {1, 1}}, Yes: []bool{true, false}},
		},
		// An empty Set doesn't.
		{
			Nfa{[]int{0}, []bool{true}, [][]Edge{{{set.Set{}, 0}, {all, 0}}}, [][]int{nil}},
			table.Table{Parts: []set.Set{all}, Next: [][]int{{0}}, Yes: []bool{true}},
		},
		// .*a
		{
			Nfa{[]int{1}, []bool{true, false}, [][]Edge{nil, {{a, 0}, {all, 1}}}, [][]int{nil, nil}},
			table.Table{Parts: []set.Set{a.Not(), a}, Next: [][]int{{0, 1}, {0, 1}}, Yes: []bool{false, true}},
		},
		// States are what Close makes: behind b there is Yes, by no byte.
		{
			Nfa{[]int{0}, []bool{false, false, true}, [][]Edge{{{set.Of('b'), 1}}, nil, nil}, [][]int{nil, {2}, {0}}},
			table.Table{Parts: []set.Set{set.Of('b').Not(), set.Of('b')}, Next: [][]int{{1, 2}, {1, 1}, {1, 2}}, Yes: []bool{false, false, true}},
		},
	} {
		if got := subset(t, c.n); !sameTable(got, c.want) {
			t.Errorf("Subset of %v: %v, not %v", c.n, got, c.want)
		}
	}
}

func TestSubsetExample(t *testing.T) {
	x := subset(t, thompson(t, read(t, "(ab)*")))
	if !x.Match("abab") || x.Match("aba") || !x.Match("") || x.Match("ba") {
		t.Error(x)
	}
}

func TestSubsetTakes(t *testing.T) {
	n := rings(7, 11)
	for k := range 77 {
		b := dfa.Grant(k)
		if x, e := Subset(n, b); e != api.ErrBudget || !isNoTable(x) || b.Used() != k {
			t.Fatal(k, "states:", e, b.Used())
		}
	}
	b := dfa.Grant(80)
	if x, e := Subset(n, b); e != api.OK || len(x.Yes) != 77 || b.Used() != 77 {
		t.Error("77 states:", e, b.Used())
	}
	if x, e := Subset(n, nil); e != api.ErrBudget || !isNoTable(x) {
		t.Error("no budget:", e)
	}
}

// As many states as may be, and more: of those none is taken.
func TestSubsetOfMany(t *testing.T) {
	b := dfa.Grant(10000)
	if x, e := Subset(rings(8, 625), b); e != api.OK || len(x.Yes) != api.MaxStates || b.Used() != api.MaxStates {
		t.Error("as many as may be:", e, b.Used())
	}
	far := thompson(t, far(t, 14))
	for _, granted := range []int{100000, api.MaxStates + 1, api.MaxStates} {
		for _, n := range []Nfa{rings(71, 73), far} {
			b := dfa.Grant(granted)
			if x, e := Subset(n, b); e != api.ErrMany || !isNoTable(x) || b.Used() != api.MaxStates {
				t.Error(granted, "granted:", e, b.Used())
			}
		}
	}
	b = dfa.Grant(api.MaxStates - 1)
	if x, e := Subset(far, b); e != api.ErrBudget || !isNoTable(x) || b.Used() != api.MaxStates-1 {
		t.Error("too few granted:", e, b.Used())
	}
	// Far fewer states, when it is read from the end.
	if x, e := Subset(far.Back(), dfa.Grant(100)); e != api.OK || len(x.Yes) != 18 {
		t.Error("from the end:", e, len(x.Yes))
	}
}

// Great ones: many states in each list, a Part for each byte, a long word.
func TestSubsetOfGreat(t *testing.T) {
	word := re.Word(strings.Repeat("abc", 1600))
	if x := subset(t, thompson(t, word)); len(x.Yes) != 4802 || !x.Match(strings.Repeat("abc", 1600)) {
		t.Error("a long word:", len(x.Yes))
	}
	crowd := rings(2000)
	for q := range crowd.Yes {
		crowd.Starts = append(crowd.Starts, q)
		crowd.Edges[q] = append(crowd.Edges[q], Edge{set.Of('a'), q / 2}, Edge{set.From('b', 'z'), 1999 - q})
	}
	if x := subset(t, crowd); !x.Match("abz") || len(x.Parts) != 3 {
		t.Error("a crowd:", len(x.Yes), len(x.Parts))
	}
	wide := rings(256)
	for q := range wide.Yes {
		wide.Edges[q][0].Set = set.Of(byte(q))
	}
	if x := subset(t, wide); len(x.Parts) != 256 || len(x.Yes) != 257 || !x.Match("") || x.Match("\x00\x01") {
		t.Error("all bytes:", len(x.Parts), len(x.Yes))
	}
}

// Read from the end, made a Table, and once more: P13.4.
func TestTwiceFromTheEnd(t *testing.T) {
	d := draw(134)
	var list []table.Table
	for range 400 {
		list = append(list, someTable(&d))
	}
	for _, r := range samples(200, 7) {
		x, e := table.From(r, dfa.Grant(10000))
		if e != api.OK {
			t.Fatal(e)
		}
		list = append(list, x)
	}
	more := 0
	for _, x := range list {
		twice := subset(t, Of(subset(t, Of(x).Back())).Back())
		least := x.Least()
		if len(twice.Yes) != len(least.Yes) {
			t.Fatalf("%v: %d states, not %d", x, len(twice.Yes), len(least.Yes))
		}
		if s, ok := table.Unlike(twice, x); ok {
			t.Fatalf("%v: other texts: %q", x, s)
		}
		if len(least.Yes) > 4 {
			more++
		}
	}
	if more < 50 {
		t.Error("few samples:", more)
	}
}
