package table

import (
	"slices"
	"strings"
	"testing"

	"periscope/api"
	"periscope/dfa"
	"periscope/part"
	"periscope/re"
	"periscope/set"
)

// differ tells which pairs of states have other texts behind them: those of which one is Yes, then those which a Part
// leads to such a pair, till nothing is new.
func differ(t Table) [][]bool {
	n := len(t.Yes)
	out := make([][]bool, n)
	for p := range out {
		out[p] = make([]bool, n)
		for q := range n {
			out[p][q] = t.Yes[p] != t.Yes[q]
		}
	}
	for again := true; again; {
		again = false
		for p := range n {
			for q := range n {
				for i := range t.Parts {
					if !out[p][q] && out[t.Next[p][i]][t.Next[q][i]] {
						out[p][q], again = true, true
					}
				}
			}
		}
	}
	return out
}

// enough is how many states are enough for a Table's texts: each one that is reached, but those that don't differ from
// one ahead of them.
func enough(t Table) int {
	r := at(t, 0)
	n := 0
	for q, row := range differ(r) {
		if slices.Index(row, false) == q {
			n++
		}
	}
	return n
}

// isLeast is what P12.4 says of what Least makes, beside its texts.
func isLeast(t Table) bool {
	if !t.Valid() || !same(t, at(t, 0)) {
		return false
	}
	for q, row := range differ(t) {
		if slices.Index(row, false) != q {
			return false
		}
	}
	for i := range t.Parts {
		for j := range i {
			if !slices.ContainsFunc(t.Next, func(row []int) bool { return row[i] != row[j] }) {
				return false
			}
		}
	}
	return true
}

func TestLeastExample(t *testing.T) {
	a, b := set.Of('a'), set.Of('b')
	want := Table{[]set.Set{a.Or(b).Not(), a, b}, [][]int{{1, 2, 1}, {1, 1, 1}, {1, 1, 0}}, []bool{true, false, false}}
	for _, s := range []string{"(ab)*", "(abab)*(ab|())", "(ab)*(ab)*", "(ab)*-c*d"} {
		if got := from(t, read(t, s)).Least(); !same(got, want) {
			t.Error("Least of", s, "is", got)
		}
	}
}

func TestLeastByHand(t *testing.T) {
	all, a := set.All(), set.Of('a')
	none := Table{[]set.Set{all}, [][]int{{0}}, []bool{false}}
	for _, c := range []struct{ x, want Table }{
		{none, none},
		{ring(1), ring(1)},
		{ring(6), ring(6)},
		// A state made twice.
		{Table{[]set.Set{all}, [][]int{{1}, {2}, {1}}, []bool{true, false, true}}, ring(2)},
		// A ring that goes round twice.
		{Table{[]set.Set{all}, [][]int{{1}, {2}, {3}, {0}}, []bool{true, false, true, false}}, ring(2)},
		// States that no text leads to, one of them Yes.
		{Table{[]set.Set{all}, [][]int{{0}, {1}, {0}}, []bool{false, true, false}}, none},
		// Parts that lead to the same, and those that lead to what is alike.
		{Table{[]set.Set{a.Not(), a}, [][]int{{0, 0}}, []bool{true}}, ring(1)},
		{Table{[]set.Set{a.Not(), a}, [][]int{{1, 2}, {1, 2}, {2, 1}}, []bool{false, true, true}}, Table{[]set.Set{all}, [][]int{{1}, {1}}, []bool{false, true}}},
		// Parts that are one again, around another one.
		{
			Table{[]set.Set{set.From(0, 9), set.From(10, 19), set.From(20, 255)}, [][]int{{0, 1, 0}, {1, 1, 1}}, []bool{false, true}},
			Table{[]set.Set{set.From(10, 19).Not(), set.From(10, 19)}, [][]int{{0, 1}, {1, 1}}, []bool{false, true}},
		},
		// Numbered as they are reached.
		{
			Table{[]set.Set{a.Not(), a}, [][]int{{2, 1}, {1, 0}, {0, 2}}, []bool{false, true, false}},
			Table{[]set.Set{a.Not(), a}, [][]int{{1, 2}, {0, 1}, {2, 0}}, []bool{false, false, true}},
		},
	} {
		if got := c.x.Least(); !same(got, c.want) {
			t.Errorf("Least of %v: %v, not %v", c.x, got, c.want)
		}
	}
}

func TestLeast(t *testing.T) {
	fewer, parts := 0, 0
	list := tables(800)
	for _, r := range samples(300) {
		if x := from(t, r); len(x.Yes) <= 30 {
			list = append(list, x)
		}
	}
	for _, x := range list {
		got := x.Least()
		if !isLeast(got) || len(got.Yes) != enough(x) {
			t.Fatalf("Least of %v: %v", x, got)
		}
		if s, ok := unlike(x, got); ok {
			t.Fatalf("Least of %v: %v has other texts: %q", x, got, s)
		}
		if !same(got.Least(), got) {
			t.Fatalf("Least of %v: %v", got, got.Least())
		}
		if n := len(got.Yes); n > 2 && n < len(x.Reach().Yes) {
			fewer++
		}
		if n := len(got.Parts); n > 1 && n < len(x.Parts) {
			parts++
		}
	}
	if fewer < 50 || parts < 60 {
		t.Error("few samples:", fewer, parts)
	}
}

// other makes a Table of the same texts: states are made several times, and stand in another order, Parts are cut.
func other(d *draw, t Table) Table {
	parts := part.Refine(append(slices.Clone(t.Parts), someSet(d), someSet(d))...)
	n, times := len(t.Yes), 1+d.below(3)
	// State q stands, for the i-th time, at place[i*n+q].
	place := make([]int, n*times)
	for i := range place {
		j := d.below(i + 1)
		place[i], place[j] = place[j], i
	}
	// State 0 must be first.
	zero := slices.Index(place, 0)
	place[0], place[zero] = place[zero], place[0]
	out := Table{parts, make([][]int, n*times), make([]bool, n*times)}
	for i, at := range place {
		for _, p := range parts {
			b, _ := p.Least()
			out.Next[at] = append(out.Next[at], place[d.below(times)*n+leads(t, i%n, b)])
		}
		out.Yes[at] = t.Yes[i%n]
	}
	return out
}

// Two Tables have the same texts just where what Least makes of them is the same.
func TestLeastIsOne(t *testing.T) {
	d := draw(124)
	for _, x := range tables(500) {
		y := other(&d, x)
		if !y.Valid() {
			t.Fatal(y)
		}
		if !same(x.Least(), y.Least()) {
			t.Fatalf("Least of %v and %v: %v, %v", x, y, x.Least(), y.Least())
		}
	}
	equal, apart := 0, 0
	for _, p := range partners(1500) {
		_, un := unlike(p[0], p[1])
		if same(p[0].Least(), p[1].Least()) == un {
			t.Fatalf("Least of %v and %v", p[0], p[1])
		}
		if un {
			apart++
		} else {
			equal++
		}
	}
	if equal < 30 || apart < 30 {
		t.Error("few samples:", equal, apart)
	}
}

// Ways to write the same texts.
func TestLeastOfPairs(t *testing.T) {
	for _, p := range partners(150) {
		x, y := p[0], p[1]
		b := dfa.Grant(100000)
		or, _ := Pair(x, y, re.Or, b)
		and, _ := Pair(x.Not(), y.Not(), re.And, b)
		minus, _ := Pair(x, y, re.Minus, b)
		back, e := Pair(x, y.Not(), re.And, b)
		if e != api.OK || !same(or.Least(), and.Not().Least()) || !same(minus.Least(), back.Least()) {
			t.Fatalf("%v, %v", x, y)
		}
	}
}

// As many states as may be: what differs shows only behind all the others.
func TestLeastOfMany(t *testing.T) {
	word := from(t, re.Word(strings.Repeat("ab", (api.MaxStates-2)/2)))
	if got := word.Least(); !same(got, word) || len(got.Yes) != api.MaxStates {
		t.Error("a long word:", len(got.Yes))
	}
	x := ring(api.MaxStates)
	if got := x.Least(); !same(got, x) {
		t.Error("a ring:", len(got.Yes))
	}
	x.Yes[api.MaxStates/2] = true
	if got := x.Least(); !same(got, ring(api.MaxStates/2)) {
		t.Error("a ring that goes round twice:", len(got.Yes))
	}
	// And as many Parts.
	wide := Table{Yes: make([]bool, 2000)}
	for b := range 256 {
		wide.Parts = append(wide.Parts, set.Of(byte(b)))
	}
	for q := range wide.Yes {
		row := make([]int, 256)
		for b := range row {
			row[b] = (q*(b%128) + b/128*2 + 1) % len(wide.Yes)
		}
		wide.Next = append(wide.Next, row)
		wide.Yes[q] = q%1000 == 0
	}
	got := wide.Least()
	if s, ok := Unlike(wide, got); ok || len(got.Yes) != 1000 {
		t.Errorf("many Parts: %d, %d, %q, %v", len(got.Yes), len(got.Parts), s, ok)
	}
}
