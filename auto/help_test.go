package auto

import (
	"slices"
	"strings"
	"testing"

	"periscope/api"
	"periscope/dfa"
	"periscope/re"
	"periscope/set"
	"periscope/text"
)

// has is P3.1's own words for the texts of an expression, which the other tests are held against.
func has(r *re.Re, s string) bool {
	if r == nil {
		return false
	}
	switch r.Op {
	case re.Eps:
		return s == ""
	case re.Class:
		return len(s) == 1 && r.Set.Has(s[0])
	case re.Cat:
		return hasRow(r.Kids, s)
	case re.Or:
		return slices.ContainsFunc(r.Kids, func(k *re.Re) bool { return has(k, s) })
	case re.Star:
		return hasMany(r.Kids[0], s)
	case re.And:
		return !slices.ContainsFunc(r.Kids, func(k *re.Re) bool { return !has(k, s) })
	case re.Minus:
		return has(r.Kids[0], s) && !has(r.Kids[1], s)
	}
	return false
}

func hasRow(kids []*re.Re, s string) bool {
	if len(kids) == 0 {
		return s == ""
	}
	for i := range len(s) + 1 {
		if has(kids[0], s[:i]) && hasRow(kids[1:], s[i:]) {
			return true
		}
	}
	return false
}

func hasMany(r *re.Re, s string) bool {
	if s == "" {
		return true
	}
	for i := range len(s) {
		if has(r, s[:i+1]) && hasMany(r, s[i+1:]) {
			return true
		}
	}
	return false
}

// draw is numbers in an order that looks like none, the same each time.
type draw uint64

func (d *draw) below(n int) int {
	*d = *d*6364136223846793005 + 1442695040888963407
	return int(uint64(*d)>>33) % n
}

func someSet(d *draw) set.Set {
	return []set.Set{
		set.Of('a'), set.Of('b'), set.Of('c'), set.Of('a', 'b'), set.Of('a', 'c'),
		set.All(), set.Of('a').Not(), set.Of(0, 255), set.Of('b'), set.Of('a'),
	}[d.below(10)]
}

// some makes an expression by layer 3's calls.
func some(d *draw, deep int) *re.Re {
	op := d.below(7)
	if deep == 0 || op == 0 {
		if d.below(6) == 0 {
			return re.Empty()
		}
		return re.One(someSet(d))
	}
	var kids []*re.Re
	for range 2 + d.below(2) {
		kids = append(kids, some(d, deep-1))
	}
	switch op {
	case 1, 2:
		return re.Then(kids...)
	case 3:
		return re.Any(kids...)
	case 4:
		return re.Both(kids...)
	case 5:
		return re.But(kids[0], kids[1])
	}
	return re.Many(kids[0])
}

// samples are many expressions, those of no texts among them.
func samples(n int) []*re.Re {
	d := draw(6)
	list := []*re.Re{re.Nothing(), re.Empty(), re.Both()}
	for i := range n {
		list = append(list, some(&d, 1+i%6))
	}
	return list
}

// read is an expression of a text.
func read(t *testing.T, s string) *re.Re {
	t.Helper()
	r, e, at := text.Read(s)
	if e != api.OK {
		t.Fatalf("%q: %d at %d", s, e, at)
	}
	return r
}

// texts are all texts of up to some bytes, of those of an order, the shorter ones first, then byte by byte: so the first
// one that is asked for is the least.
func texts(bytes string, most int) []string {
	list := []string{""}
	for from := 0; len(list[from]) < most; from++ {
		for i := range len(bytes) {
			list = append(list, list[from]+bytes[i:i+1])
		}
	}
	return list
}

// headBytes are the least bytes of the parts into which the sets of samples cut all bytes.
const headBytes = "\x00\x01abc"

// least is the first of some texts for which a question is answered so.
func least(list []string, asked func(string) bool) (string, bool) {
	if i := slices.IndexFunc(list, asked); i >= 0 {
		return list[i], true
	}
	return "", false
}

// build is the states of an expression by a budget that is great enough.
func build(t *testing.T, r *re.Re) *dfa.Dfa {
	t.Helper()
	d, e := dfa.Build(r, dfa.Grant(100000))
	if e != api.OK || d == nil {
		t.Fatalf("%s: %d", text.Of(r), e)
	}
	return d
}

// far is (a|b)*a and so many of a or b behind it.
func far(t *testing.T, n int) *re.Re {
	t.Helper()
	return read(t, "(a|b)*a"+strings.Repeat("(a|b)", n))
}
