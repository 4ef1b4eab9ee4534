package elim

import (
	"slices"
	"testing"

	"periscope/api"
	"periscope/auto"
	"periscope/deriv"
	"periscope/dfa"
	"periscope/part"
	"periscope/re"
	"periscope/set"
	"periscope/table"
	"periscope/text"
)

// draw is numbers in an order that looks like none, the same each time.
type draw uint64

func (d *draw) below(n int) int {
	*d = *d*6364136223846793005 + 1442695040888963407
	return int(uint64(*d)>>33) % n
}

func someSet(d *draw) set.Set {
	return []set.Set{
		set.Of('a'), set.Of('b'), set.Of('c'), set.Of('a', 'b'), set.Of('a', 'c'),
		set.All(), set.Of('a').Not(), set.Of(0, 255), set.Of('b', 'c'), set.Of('a'),
	}[d.below(10)]
}

// some makes an expression by layer 3's calls.
func some(d *draw, deep int) *re.Re {
	op := d.below(7)
	if deep == 0 || op == 0 {
		if d.below(6) == 0 {
			return re.Empty()
		}
		return re.One(someSet(d))
	}
	kids := []*re.Re{some(d, deep-1), some(d, deep-1)}
	switch op {
	case 1, 2:
		return re.Then(kids...)
	case 3:
		return re.Any(kids...)
	case 4:
		return re.Both(kids...)
	case 5:
		return re.But(kids[0], kids[1])
	}
	return re.Many(kids[0])
}

// equations are rows and ends.
type equations struct {
	rows [][]*re.Re
	ends []*re.Re
}

// nothing is so many equations of nothing.
func nothing(n int) equations {
	q := equations{make([][]*re.Re, n), make([]*re.Re, n)}
	for i := range q.rows {
		q.rows[i] = make([]*re.Re, n)
	}
	return q
}

// full is so many equations in which all is what a function makes.
func full(n int, f func() *re.Re) equations {
	q := nothing(n)
	for i := range n {
		q.ends[i] = f()
		for j := range n {
			q.rows[i][j] = f()
		}
	}
	return q
}

// someEquations are of a few unknowns, and have many nils, and expressions that are Null and that aren't.
func someEquations(d *draw) equations {
	return full(1+d.below(4), func() *re.Re {
		switch d.below(6) {
		case 0, 1:
			return nil
		case 2:
			return []*re.Re{re.Nothing(), re.Empty(), re.Any(re.Empty(), re.Word("b"))}[d.below(3)]
		}
		return some(d, d.below(3))
	})
}

func (q equations) clone() equations {
	c := equations{nil, slices.Clone(q.ends)}
	for _, row := range q.rows {
		c.rows = append(c.rows, slices.Clone(row))
	}
	return c
}

// greatest is the greatest Size of what is handed in.
func (q equations) greatest() int {
	n := 0
	for _, row := range append(q.rows, q.ends) {
		for _, r := range row {
			n = max(n, r.Size())
		}
	}
	return n
}

// small is P14.3's own words for what is never too great.
func (q equations) small() bool {
	n := 1 + q.greatest()
	for range q.ends {
		n *= 8
	}
	return n <= 10*api.MaxNodes
}

// least is P14.1's own words for the least solution, of texts of up to some bytes: of each unknown those that must be
// ones, by so many steps as bring new ones.
func (q equations) least(list []string) []map[string]struct{} {
	out := make([]map[string]struct{}, len(q.ends))
	for i := range out {
		out[i] = map[string]struct{}{}
	}
	for more := true; more; {
		more = false
		for i := range q.ends {
			for _, s := range list {
				if _, ok := out[i][s]; !ok && q.must(out, i, s) {
					out[i][s], more = struct{}{}, true
				}
			}
		}
	}
	return out
}

// must tells whether a text must be one of an unknown, by one step from those that were found.
func (q equations) must(found []map[string]struct{}, i int, s string) bool {
	if deriv.Match(q.ends[i], s) {
		return true
	}
	for j, r := range q.rows[i] {
		for at := range len(s) + 1 {
			if _, ok := found[j][s[at:]]; ok && deriv.Match(r, s[:at]) {
				return true
			}
		}
	}
	return false
}

// right is what equation i says its unknown is, by what all of them are.
func (q equations) right(i int, all []*re.Re) *re.Re {
	list := []*re.Re{q.ends[i]}
	for j, r := range q.rows[i] {
		list = append(list, re.Then(r, all[j]))
	}
	return re.Any(list...)
}

// someTable makes a valid Table of so many states.
func someTable(d *draw, n int) table.Table {
	var sets []set.Set
	for range d.below(4) {
		sets = append(sets, someSet(d))
	}
	return mixed(d, n, part.Refine(sets...))
}

// mixed is a Table of so many states, which lead to just any others.
func mixed(d *draw, n int, parts []set.Set) table.Table {
	t := table.Table{Parts: parts}
	for range n {
		var row []int
		for range parts {
			row = append(row, d.below(n))
		}
		t.Next = append(t.Next, row)
		t.Yes = append(t.Yes, d.below(3) == 0)
	}
	return t
}

// bytewise is all bytes, each a Part of its own.
func bytewise() []set.Set {
	var list []set.Set
	for b := range 256 {
		list = append(list, set.Of(byte(b)))
	}
	return list
}

// crowd is so many states, each of which leads to all by other bytes; the last one is Yes.
func crowd(n int) table.Table {
	t := table.Table{Parts: bytewise(), Yes: make([]bool, n)}
	for q := range n {
		row := make([]int, 256)
		for b := range row {
			row[b] = (b*(q+1) + b/n) % n
		}
		t.Next = append(t.Next, row)
	}
	t.Yes[n-1] = true
	return t
}

// ring is so many states, each of which leads to the next one by all bytes, the last one to the first, which is Yes.
func ring(n int) table.Table {
	t := table.Table{Parts: []set.Set{set.All()}, Yes: make([]bool, n)}
	for q := range n {
		t.Next = append(t.Next, []int{(q + 1) % n})
	}
	t.Yes[0] = true
	return t
}

// from is the Table of an expression.
func from(t *testing.T, r *re.Re) table.Table {
	t.Helper()
	x, e := table.From(r, dfa.Grant(100000))
	if e != api.OK || !x.Valid() {
		t.Fatalf("%s: %d", text.Of(r), e)
	}
	return x
}

// read is an expression of a text.
func read(t *testing.T, s string) *re.Re {
	t.Helper()
	r, e, at := text.Read(s)
	if e != api.OK {
		t.Fatalf("%q: %d at %d", s, e, at)
	}
	return r
}

// texts are all texts of up to some bytes, of some.
func texts(bytes string, most int) []string {
	list := []string{""}
	for from := 0; len(list[from]) < most; from++ {
		for i := range len(bytes) {
			list = append(list, list[from]+bytes[i:i+1])
		}
	}
	return list
}

// wantSame tells of a text that one of two expressions has, and the other hasn't.
func wantSame(t *testing.T, name string, got, want *re.Re) {
	t.Helper()
	if got == nil {
		t.Fatalf("%s: nil", name)
	}
	w, ok, e := auto.Unlike(got, want, dfa.Grant(100000))
	if e != api.OK {
		t.Fatalf("%s: %d", name, e)
	}
	if ok {
		t.Errorf("%s: %q is a text of one only of %s and %s", name, w, text.Of(got), text.Of(want))
	}
}
