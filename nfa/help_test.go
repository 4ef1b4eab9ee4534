package nfa

import (
	"reflect"
	"slices"
	"strings"
	"testing"

	"periscope/api"
	"periscope/dfa"
	"periscope/part"
	"periscope/re"
	"periscope/set"
	"periscope/table"
	"periscope/text"
)

// draw is numbers in an order that looks like none, the same each time.
type draw uint64

func (d *draw) below(n int) int {
	*d = *d*6364136223846793005 + 1442695040888963407
	return int(uint64(*d)>>33) % n
}

func someSet(d *draw) set.Set {
	return []set.Set{
		set.Of('a'), set.Of('b'), set.Of('c'), set.Of('a', 'b'), set.Of('a', 'c'),
		set.All(), set.Of('a').Not(), set.Of(0, 255), set.Of('b', 'c'), set.Of('a'),
	}[d.below(10)]
}

// headBytes are the least bytes of the parts into which the sets of samples cut all bytes.
const headBytes = "\x00\x01abc"

// some makes an expression by layer 3's calls, of so many Ops at most: 5 has no And and Minus, 7 has all.
func some(d *draw, deep, ops int) *re.Re {
	op := d.below(ops)
	if deep == 0 || op == 0 {
		if d.below(6) == 0 {
			return re.Empty()
		}
		return re.One(someSet(d))
	}
	var kids []*re.Re
	for range 2 + d.below(2) {
		kids = append(kids, some(d, deep-1, ops))
	}
	switch op {
	case 1, 2:
		return re.Then(kids...)
	case 3:
		return re.Any(kids...)
	case 4:
		return re.Many(kids[0])
	case 5:
		return re.Both(kids...)
	}
	return re.But(kids[0], kids[1])
}

// samples are many expressions, those of no texts among them.
func samples(n, ops int) []*re.Re {
	d := draw(13)
	list := []*re.Re{nil, re.Nothing(), re.Empty(), re.Many(re.One(set.All()))}
	for i := range n {
		list = append(list, some(&d, 1+i%5, ops))
	}
	return list
}

// someNfa makes a valid Nfa of a few states.
func someNfa(d *draw) Nfa {
	count := 1 + d.below(7)
	n := Nfa{Yes: make([]bool, count), Edges: make([][]Edge, count), Free: make([][]int, count)}
	for range d.below(3) {
		n.Starts = append(n.Starts, d.below(count))
	}
	for q := range count {
		n.Yes[q] = d.below(4) == 0
		for range d.below(4) {
			s := someSet(d)
			if d.below(20) == 0 {
				s = set.Set{}
			}
			n.Edges[q] = append(n.Edges[q], Edge{s, d.below(count)})
		}
		for d.below(3) == 0 {
			n.Free[q] = append(n.Free[q], d.below(count))
		}
	}
	return n
}

// nfas are many valid Nfas.
func nfas(count int) []Nfa {
	d := draw(130)
	var list []Nfa
	for range count {
		list = append(list, someNfa(&d))
	}
	return list
}

// someTable makes a valid Table of a few states.
func someTable(d *draw) table.Table {
	t := table.Table{Parts: part.Refine(someSet(d), someSet(d))}
	n := 1 + d.below(7)
	for range n {
		var row []int
		for range t.Parts {
			row = append(row, d.below(n))
		}
		t.Next = append(t.Next, row)
		t.Yes = append(t.Yes, d.below(3) == 0)
	}
	return t
}

// rings is rings of states, of each size one, each state of which leads to the next one by all bytes; each one's first
// state is a start, the first of all is Yes.
func rings(sizes ...int) Nfa {
	var n Nfa
	for _, size := range sizes {
		first := len(n.Yes)
		n.Starts = append(n.Starts, first)
		for i := range size {
			n.Yes = append(n.Yes, first+i == 0)
			n.Edges = append(n.Edges, []Edge{{set.All(), first + (i+1)%size}})
			n.Free = append(n.Free, nil)
		}
	}
	return n
}

// wrong are Nfas that aren't valid, by what is wrong.
func wrong() map[string]Nfa {
	turned := func(turn func(n *Nfa)) Nfa {
		n := Nfa{[]int{0, 1}, []bool{true, true}, [][]Edge{{{set.All(), 0}}, {{set.All(), 0}, {set.Of('a'), 1}}}, [][]int{{1}, {0, 1}}}
		turn(&n)
		return n
	}
	return map[string]Nfa{
		"nothing at all":     {},
		"no states":          {Starts: []int{0}},
		"no Yes":             turned(func(n *Nfa) { n.Yes = nil }),
		"too few Yes":        turned(func(n *Nfa) { n.Yes = n.Yes[:1] }),
		"too many Yes":       turned(func(n *Nfa) { n.Yes = append(n.Yes, true) }),
		"no Edges":           turned(func(n *Nfa) { n.Edges = nil }),
		"too few Edges":      turned(func(n *Nfa) { n.Edges = n.Edges[:1] }),
		"too many Edges":     turned(func(n *Nfa) { n.Edges = append(n.Edges, nil) }),
		"no Free":            turned(func(n *Nfa) { n.Free = nil }),
		"too few Free":       turned(func(n *Nfa) { n.Free = n.Free[:1] }),
		"too many Free":      turned(func(n *Nfa) { n.Free = append(n.Free, nil) }),
		"a start below 0":    turned(func(n *Nfa) { n.Starts[1] = -1 }),
		"a start too high":   turned(func(n *Nfa) { n.Starts[1] = 2 }),
		"an Edge below 0":    turned(func(n *Nfa) { n.Edges[1][1].To = -1 }),
		"an Edge too high":   turned(func(n *Nfa) { n.Edges[1][1].To = 2 }),
		"an empty Edge":      turned(func(n *Nfa) { n.Edges[0][0] = Edge{set.Set{}, 2} }),
		"a free way below 0": turned(func(n *Nfa) { n.Free[1][1] = -1 }),
		"a free way too far": turned(func(n *Nfa) { n.Free[1][1] = 2 }),
		"too many states":    rings(api.MaxStates + 1),
	}
}

// read is an expression of a text.
func read(t *testing.T, s string) *re.Re {
	t.Helper()
	r, e, at := text.Read(s)
	if e != api.OK {
		t.Fatalf("%q: %d at %d", s, e, at)
	}
	return r
}

// thompson is the Nfa of an expression by a budget that is great enough.
func thompson(t *testing.T, r *re.Re) Nfa {
	t.Helper()
	n, e := Thompson(r, dfa.Grant(100000))
	if e != api.OK || !n.Valid() {
		t.Fatalf("%s: %d", text.Of(r), e)
	}
	return n
}

// subset is the Table of an Nfa by a budget that is great enough.
func subset(t *testing.T, n Nfa) table.Table {
	t.Helper()
	x, e := Subset(n, dfa.Grant(100000))
	if e != api.OK || !x.Valid() {
		t.Fatalf("%v: %d", n, e)
	}
	return x
}

// far is (a|b)*a and so many of a or b behind it.
func far(t *testing.T, n int) *re.Re {
	t.Helper()
	return read(t, "(a|b)*a"+strings.Repeat("(a|b)", n))
}

// texts are all texts of up to some bytes.
func texts(bytes string, most int) []string {
	list := []string{""}
	for from := 0; len(list[from]) < most; from++ {
		for i := range len(bytes) {
			list = append(list, list[from]+bytes[i:i+1])
		}
	}
	return list
}

func reversed(s string) string {
	b := []byte(s)
	slices.Reverse(b)
	return string(b)
}

// has is P13.1's own words for the texts of an Nfa: whether one can go from a start to a state that is Yes.
func has(n Nfa, s string) bool {
	type place struct{ q, i int }
	been := map[place]bool{}
	var goes func(q, i int) bool
	goes = func(q, i int) bool {
		if been[place{q, i}] {
			return false
		}
		been[place{q, i}] = true
		if i == len(s) && n.Yes[q] {
			return true
		}
		for _, to := range n.Free[q] {
			if goes(to, i) {
				return true
			}
		}
		for _, e := range n.Edges[q] {
			if i < len(s) && e.Set.Has(s[i]) && goes(e.To, i+1) {
				return true
			}
		}
		return false
	}
	return slices.ContainsFunc(n.Starts, func(q int) bool { return goes(q, 0) })
}

// closed is P13.1's own words for Close: what is added, till nothing is new.
func closed(n Nfa, states []int) []int {
	in := make([]bool, len(n.Yes))
	for _, q := range states {
		if q >= 0 && q < len(in) {
			in[q] = true
		}
	}
	for again := true; again; {
		again = false
		for q := range in {
			for _, to := range n.Free[q] {
				if in[q] && !in[to] {
					in[to], again = true, true
				}
			}
		}
	}
	var list []int
	for q := range in {
		if in[q] {
			list = append(list, q)
		}
	}
	return list
}

func isEmpty(n Nfa) bool {
	return len(n.Starts) == 0 && len(n.Yes) == 0 && len(n.Edges) == 0 && len(n.Free) == 0
}

func isNoTable(t table.Table) bool {
	return len(t.Parts) == 0 && len(t.Next) == 0 && len(t.Yes) == 0
}

// sameTable tells whether two Tables are the same.
func sameTable(x, y table.Table) bool {
	return slices.Equal(x.Parts, y.Parts) && slices.EqualFunc(x.Next, y.Next, slices.Equal[[]int]) && slices.Equal(x.Yes, y.Yes)
}

func clone(n Nfa) Nfa {
	c := Nfa{Starts: slices.Clone(n.Starts), Yes: slices.Clone(n.Yes)}
	for q := range n.Edges {
		c.Edges = append(c.Edges, slices.Clone(n.Edges[q]))
		c.Free = append(c.Free, slices.Clone(n.Free[q]))
	}
	return c
}

// spoil writes over all that is within the reach of an Nfa's lists, one list at a time; a list that turns when another
// one is written over shares its memory.
func spoil(t *testing.T, name string, n Nfa) {
	t.Helper()
	for q := range n.Edges {
		was := clone(n)
		for i := range n.Edges[q][:cap(n.Edges[q])] {
			n.Edges[q][:cap(n.Edges[q])][i] = Edge{set.Of(7), -7}
		}
		was.Edges[q] = n.Edges[q]
		if !reflect.DeepEqual(was, clone(n)) {
			t.Errorf("%s: the Edges of %d share their memory", name, q)
		}
		was = clone(n)
		for i := range n.Free[q][:cap(n.Free[q])] {
			n.Free[q][:cap(n.Free[q])][i] = -7
		}
		was.Free[q] = n.Free[q]
		if !reflect.DeepEqual(was, clone(n)) {
			t.Errorf("%s: Free of %d shares its memory", name, q)
		}
	}
	for i := range n.Starts[:cap(n.Starts)] {
		n.Starts[:cap(n.Starts)][i] = -7
	}
	for i := range n.Yes {
		n.Yes[i] = !n.Yes[i]
	}
}
