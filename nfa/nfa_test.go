package nfa

import (
	"math"
	"reflect"
	"slices"
	"strings"
	"testing"

	"periscope/api"
	"periscope/dfa"
	"periscope/set"
	"periscope/table"
)

func TestValid(t *testing.T) {
	for name, n := range map[string]Nfa{
		"one state":                {Yes: []bool{false}, Edges: [][]Edge{nil}, Free: [][]int{nil}},
		"starts that stand twice":  {[]int{0, 0, 0}, []bool{true}, [][]Edge{{}}, [][]int{{}}},
		"ways that stand twice":    {[]int{0}, []bool{true}, [][]Edge{{{set.Of('a'), 0}, {set.Of('a'), 0}}}, [][]int{{0, 0}}},
		"an Edge of no byte":       {[]int{0}, []bool{true}, [][]Edge{{{set.Set{}, 0}}}, [][]int{nil}},
		"as many states as may be": rings(api.MaxStates),
	} {
		if !n.Valid() {
			t.Error(name, "isn't valid")
		}
	}
	for _, n := range nfas(300) {
		if !n.Valid() {
			t.Fatal(n, "isn't valid")
		}
	}
	for name, n := range wrong() {
		if n.Valid() {
			t.Error(name, "is valid")
		}
	}
}

func TestOfWhatIsntValid(t *testing.T) {
	for name, n := range wrong() {
		if n.Match("") || n.Match("a") {
			t.Error(name, "has texts")
		}
		if c := n.Close([]int{0, 1}); len(c) > 0 {
			t.Error("Close of", name, "is", c)
		}
		if !isEmpty(n.Back()) {
			t.Error("Back of", name, "has something")
		}
		b := dfa.Grant(10)
		if x, e := Subset(n, b); e != api.ErrArg || !isNoTable(x) || b.Used() != 0 {
			t.Error("Subset of", name, "tells", e, "and takes", b.Used())
		}
		if _, e := Subset(n, nil); e != api.ErrArg {
			t.Error("Subset of", name, "without a budget tells", e)
		}
	}
}

func TestMatchByHand(t *testing.T) {
	a, b := set.Of('a'), set.Of('b')
	for _, c := range []struct {
		n         Nfa
		yes, nope string
	}{
		// a*b, or that again and again.
		{Nfa{[]int{0}, []bool{false, true}, [][]Edge{{{a, 0}, {b, 1}}, nil}, [][]int{nil, {0}}}, "b ab aab abb abaab", "- a aba c"},
		// Free ways go one way, and round.
		{Nfa{[]int{0}, []bool{false, false, true}, [][]Edge{nil, {{a, 0}}, nil}, [][]int{{1}, {2}, {0, 1}}}, "- a aa", "b ab"},
		{Nfa{[]int{2}, []bool{true, false, false}, [][]Edge{{{a, 1}}, {{a, 2}}, {{b, 1}}}, [][]int{{1}, nil, nil}}, "", "- a b ba bab"},
		// Several starts, and none.
		{Nfa{[]int{1, 0}, []bool{false, false, true}, [][]Edge{{{a, 2}}, {{b, 2}}, nil}, [][]int{nil, nil, nil}}, "a b", "- ab aa"},
		{Nfa{nil, []bool{true}, [][]Edge{{{a, 0}}}, [][]int{{0}}}, "", "- a"},
		// By one byte to several states.
		{Nfa{[]int{0}, []bool{false, false, false, true}, [][]Edge{{{a, 1}, {a.Or(b), 2}}, {{a, 3}}, {{b, 3}}, nil}, make([][]int, 4)}, "aa ab bb", "- a ba aab"},
		// An Edge without bytes is no way.
		{Nfa{[]int{0}, []bool{false, true}, [][]Edge{{{set.Set{}, 1}}, nil}, [][]int{nil, nil}}, "", "- a \x00"},
	} {
		for _, w := range strings.Fields(c.yes) {
			if !c.n.Match(strings.Trim(w, "-")) {
				t.Errorf("%v hasn't %q", c.n, w)
			}
		}
		for _, w := range strings.Fields(c.nope) {
			if c.n.Match(strings.Trim(w, "-")) {
				t.Errorf("%v has %q", c.n, w)
			}
		}
	}
}

func TestMatch(t *testing.T) {
	list := texts(headBytes+"\xff", 3)
	met := map[bool]int{}
	for _, n := range nfas(700) {
		for _, s := range list {
			want := has(n, s)
			if n.Match(s) != want {
				t.Fatalf("%v, %q: %v", n, s, !want)
			}
			met[want]++
		}
	}
	if met[true] < 10000 || met[false] < 10000 {
		t.Error("few samples:", met)
	}
}

func TestMatchOfLong(t *testing.T) {
	long := strings.Repeat("ab", api.MaxText/2)
	if n := thompson(t, read(t, "(a|b)*a(a|b)")); !n.Match(long) || n.Match(long[:len(long)-1]) {
		t.Error("a long text")
	}
	if n := rings(api.MaxStates); !n.Match(long[:2*api.MaxStates]) || n.Match(long) {
		t.Error("a long text, many states")
	}
}

func TestClose(t *testing.T) {
	d := draw(131)
	for _, n := range nfas(500) {
		for range 5 {
			var states []int
			for range d.below(5) {
				states = append(states, d.below(len(n.Yes)+4)-2)
			}
			was := slices.Clone(states)
			if got, want := n.Close(states), closed(n, states); !slices.Equal(got, want) {
				t.Fatalf("Close of %v of %v: %v, not %v", states, n, got, want)
			}
			if !slices.Equal(was, states) {
				t.Fatal("Close turned its states")
			}
		}
	}
}

func TestCloseByHand(t *testing.T) {
	n := Nfa{nil, make([]bool, 200), make([][]Edge, 200), make([][]int, 200)}
	n.Free[199] = []int{3, 64}
	n.Free[64] = []int{63, 199, 128}
	n.Free[5] = []int{5}
	n.Edges[7] = []Edge{{set.All(), 9}}
	for _, c := range []struct{ states, want []int }{
		{nil, nil},
		{[]int{}, nil},
		{[]int{5, 5, 5}, []int{5}},
		{[]int{9, 7, 8, 7}, []int{7, 8, 9}},
		{[]int{199}, []int{3, 63, 64, 128, 199}},
		{[]int{100, 64, 0}, []int{0, 3, 63, 64, 100, 128, 199}},
		{[]int{200, -1, math.MaxInt, math.MinInt, 127}, []int{127}},
	} {
		if got := n.Close(c.states); !slices.Equal(got, c.want) {
			t.Errorf("Close of %v: %v, not %v", c.states, got, c.want)
		}
	}
	// A free way through as many states as may be.
	long := rings(api.MaxStates)
	for q := range long.Free {
		long.Free[q] = []int{(q + api.MaxStates - 1) % api.MaxStates}
	}
	if got := long.Close([]int{77}); len(got) != api.MaxStates || !slices.IsSorted(got) {
		t.Error("a long way:", len(got))
	}
}

func TestOf(t *testing.T) {
	d := draw(132)
	list := texts(headBytes, 3)
	for range 300 {
		x := someTable(&d)
		n := Of(x)
		if !n.Valid() || len(n.Yes) != len(x.Yes) {
			t.Fatalf("Of %v: %v", x, n)
		}
		for _, s := range list {
			if has(n, s) != x.Match(s) {
				t.Fatalf("Of %v: %q", x, s)
			}
		}
		// All texts, not the short ones only.
		if s, ok := table.Unlike(subset(t, n), x); ok {
			t.Fatalf("Of %v: %q", x, s)
		}
	}
	for _, x := range []table.Table{{}, {Parts: []set.Set{set.Of('a')}, Next: [][]int{{0}}, Yes: []bool{true}}} {
		if !isEmpty(Of(x)) {
			t.Error("Of what isn't valid has something")
		}
	}
}

func TestBack(t *testing.T) {
	list := texts(headBytes, 3)
	for _, n := range nfas(500) {
		back := n.Back()
		if !back.Valid() || len(back.Yes) != len(n.Yes) {
			t.Fatalf("Back of %v: %v", n, back)
		}
		for _, s := range list {
			if has(back, reversed(s)) != has(n, s) {
				t.Fatalf("Back of %v: %q", n, s)
			}
		}
		if s, ok := table.Unlike(subset(t, back.Back()), subset(t, n)); ok {
			t.Fatalf("Back of Back of %v: %q", n, s)
		}
	}
	// Each text from its end, as layer 3 reads expressions.
	for _, r := range samples(200, 7) {
		if s, ok := table.Unlike(subset(t, thompson(t, r).Back()), subset(t, thompson(t, r.Back()))); ok {
			t.Fatalf("Back of %s: %q", r.Key(), s)
		}
	}
}

// What is made is new memory, and what is handed in stays as it is.
func TestNothingTurns(t *testing.T) {
	d := draw(133)
	for _, n := range nfas(200) {
		was := clone(n)
		back := n.Back()
		spoil(t, "Back", back)
		list := n.Close(n.Starts)
		for i := range list {
			list[i] = -7
		}
		x := subset(t, n)
		n.Match("ab")
		for q := range x.Next {
			others := slices.Clone(x.Next)
			others[q] = nil
			before := make([][]int, len(others))
			for i := range others {
				before[i] = slices.Clone(others[i])
			}
			row := x.Next[q][:cap(x.Next[q])]
			for i := range row {
				row[i] = -7
			}
			if !slices.EqualFunc(others, before, slices.Equal[[]int]) {
				t.Fatal("Subset: rows share their memory")
			}
		}
		if !reflect.DeepEqual(n, was) {
			t.Fatalf("%v turned into %v", was, n)
		}
		y := someTable(&d)
		again := y.At(0).Not().Not()
		spoil(t, "Of", Of(y))
		if !sameTable(y.Reach(), again) {
			t.Fatal("Of turned a Table, or shares its memory")
		}
	}
	r := read(t, "(ab)*c|.*-.*d.*")
	key := r.Key()
	spoil(t, "Thompson", thompson(t, r))
	if r.Key() != key || !thompson(t, r).Match("abc") {
		t.Error("Thompson turned an expression")
	}
}
