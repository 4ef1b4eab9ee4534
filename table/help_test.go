package table

import (
	"reflect"
	"slices"
	"strings"
	"testing"

	"periscope/api"
	"periscope/dfa"
	"periscope/part"
	"periscope/re"
	"periscope/set"
	"periscope/text"
)

// draw is numbers in an order that looks like none, the same each time.
type draw uint64

func (d *draw) below(n int) int {
	*d = *d*6364136223846793005 + 1442695040888963407
	return int(uint64(*d)>>33) % n
}

func someSet(d *draw) set.Set {
	return []set.Set{
		set.Of('a'), set.Of('b'), set.Of('c'), set.Of('a', 'b'), set.Of('a', 'c'),
		set.All(), set.Of('a').Not(), set.Of(0, 255), set.Of('b', 'c'), set.Of('a'),
	}[d.below(10)]
}

// headBytes are the least bytes of the parts into which the sets of samples cut all bytes.
const headBytes = "\x00\x01abc"

// some makes an expression by layer 3's calls.
func some(d *draw, deep int) *re.Re {
	op := d.below(7)
	if deep == 0 || op == 0 {
		if d.below(6) == 0 {
			return re.Empty()
		}
		return re.One(someSet(d))
	}
	var kids []*re.Re
	for range 2 + d.below(2) {
		kids = append(kids, some(d, deep-1))
	}
	switch op {
	case 1, 2:
		return re.Then(kids...)
	case 3:
		return re.Any(kids...)
	case 4:
		return re.Both(kids...)
	case 5:
		return re.But(kids[0], kids[1])
	}
	return re.Many(kids[0])
}

// samples are many expressions, those of no texts among them.
func samples(n int) []*re.Re {
	d := draw(12)
	list := []*re.Re{nil, re.Nothing(), re.Empty(), re.Both()}
	for i := range n {
		list = append(list, some(&d, 1+i%5))
	}
	return list
}

// someTable makes a valid Table of a few states, most of which lead to few others, so that many are alike.
func someTable(d *draw) Table {
	var sets []set.Set
	for range d.below(4) {
		sets = append(sets, someSet(d))
	}
	t := Table{Parts: part.Refine(sets...)}
	n := 1 + d.below(8)
	near := 1 + d.below(n)
	for range n {
		var row []int
		for range t.Parts {
			row = append(row, d.below(near))
		}
		if d.below(2) == 0 {
			row[d.below(len(row))] = d.below(n)
		}
		t.Next = append(t.Next, row)
		t.Yes = append(t.Yes, d.below(3) == 0)
	}
	return t
}

// tables are many valid Tables.
func tables(n int) []Table {
	d := draw(120)
	var list []Table
	for range n {
		list = append(list, someTable(&d))
	}
	return list
}

// ring is so many states, each of which leads to the next one by all bytes, the last one to the first; the first is Yes.
func ring(n int) Table {
	t := Table{Parts: []set.Set{set.All()}, Yes: make([]bool, n)}
	for q := range n {
		t.Next = append(t.Next, []int{(q + 1) % n})
	}
	t.Yes[0] = true
	return t
}

// wrong are Tables that aren't valid, by what is wrong.
func wrong() map[string]Table {
	a, b := set.Of('a'), set.Of('b')
	others := a.Or(b).Not()
	two := func(parts ...set.Set) Table {
		row := make([]int, len(parts))
		return Table{parts, [][]int{row, slices.Clone(row)}, []bool{true, true}}
	}
	turned := func(turn func(t *Table)) Table {
		t := two(others, a, b)
		turn(&t)
		return t
	}
	return map[string]Table{
		"nothing at all":            {},
		"no states":                 {Parts: []set.Set{set.All()}},
		"no Yes":                    turned(func(t *Table) { t.Yes = nil }),
		"too few Yes":               turned(func(t *Table) { t.Yes = t.Yes[:1] }),
		"too many Yes":              turned(func(t *Table) { t.Yes = append(t.Yes, true) }),
		"no rows":                   turned(func(t *Table) { t.Next = nil }),
		"a row too few":             turned(func(t *Table) { t.Next = t.Next[:1] }),
		"a row too many":            turned(func(t *Table) { t.Next = append(t.Next, t.Next[0]) }),
		"a row that is nil":         turned(func(t *Table) { t.Next[1] = nil }),
		"a row too short":           turned(func(t *Table) { t.Next[1] = t.Next[1][:2] }),
		"a row too long":            turned(func(t *Table) { t.Next[1] = append(t.Next[1], 0) }),
		"a state below 0":           turned(func(t *Table) { t.Next[0][2] = -1 }),
		"a state that isn't":        turned(func(t *Table) { t.Next[1][0] = 2 }),
		"no Parts":                  two(),
		"a byte that is in no Part": two(others, a),
		"an empty Part ahead":       two(set.Set{}, others, a, b),
		"an empty Part":             two(others, set.Set{}, a, b),
		"an empty Part last":        two(others, a, b, set.Set{}),
		"a byte in two Parts":       two(others.Or(b), a, b),
		"a Part twice":              two(others, a, a, b),
		"all bytes twice":           two(set.All(), set.All()),
		"Parts in another order":    two(others, b, a),
		"the first Part last":       two(a, b, others),
		"too many states":           ring(api.MaxStates + 1),
	}
}

// read is an expression of a text.
func read(t *testing.T, s string) *re.Re {
	t.Helper()
	r, e, at := text.Read(s)
	if e != api.OK {
		t.Fatalf("%q: %d at %d", s, e, at)
	}
	return r
}

// from is the Table of an expression by a budget that is great enough.
func from(t *testing.T, r *re.Re) Table {
	t.Helper()
	x, e := From(r, dfa.Grant(100000))
	if e != api.OK || !x.Valid() {
		t.Fatalf("%s: %d", text.Of(r), e)
	}
	return x
}

// far is (a|b)*a and so many of a or b behind it.
func far(t *testing.T, n int) *re.Re {
	t.Helper()
	return read(t, "(a|b)*a"+strings.Repeat("(a|b)", n))
}

// texts are all texts of up to some bytes, of those of an order, the shorter ones first, then byte by byte: so the first
// one that is asked for is the least.
func texts(bytes string, most int) []string {
	list := []string{""}
	for from := 0; len(list[from]) < most; from++ {
		for i := range len(bytes) {
			list = append(list, list[from]+bytes[i:i+1])
		}
	}
	return list
}

// leads is P12.1's own words for where a byte leads to from a state that there is.
func leads(t Table, q int, b byte) int {
	for p, s := range t.Parts {
		if s.Has(b) {
			return t.Next[q][p]
		}
	}
	return -1
}

// has is P12.1's own words for the texts of a Table.
func has(t Table, s string) bool {
	q := 0
	for i := range len(s) {
		q = leads(t, q, s[i])
	}
	return t.Yes[q]
}

// same tells whether two Tables are the same, nil and empty lists being one.
func same(x, y Table) bool {
	return slices.Equal(x.Parts, y.Parts) && slices.EqualFunc(x.Next, y.Next, slices.Equal[[]int]) && slices.Equal(x.Yes, y.Yes)
}

func isEmpty(t Table) bool { return len(t.Parts) == 0 && len(t.Next) == 0 && len(t.Yes) == 0 }

func clone(t Table) Table {
	c := Table{slices.Clone(t.Parts), nil, slices.Clone(t.Yes)}
	for _, row := range t.Next {
		c.Next = append(c.Next, slices.Clone(row))
	}
	return c
}

// spoil writes over all that is within the reach of a Table's lists, one list at a time; a row that turns when another
// one is written over shares its memory.
func spoil(t *testing.T, name string, x Table) {
	t.Helper()
	for i := range x.Next {
		others := clone(x).Next
		row := x.Next[i][:cap(x.Next[i])]
		for j := range row {
			row[j] = -7
		}
		others[i] = x.Next[i]
		if !reflect.DeepEqual(others, x.Next) {
			t.Errorf("%s: row %d shares its memory", name, i)
		}
	}
	for i := range x.Parts {
		x.Parts[i] = set.Of(7)
	}
	for i := range x.Yes {
		x.Yes[i] = !x.Yes[i]
	}
}
