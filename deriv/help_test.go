package deriv

import (
	"slices"
	"testing"

	"periscope/api"
	"periscope/re"
	"periscope/set"
	"periscope/text"
)

// has is P3.1's own words for the texts of an expression, which the other tests are held against.
func has(r *re.Re, s string) bool {
	if r == nil {
		return false
	}
	switch r.Op {
	case re.Eps:
		return s == ""
	case re.Class:
		return len(s) == 1 && r.Set.Has(s[0])
	case re.Cat:
		return hasRow(r.Kids, s)
	case re.Or:
		return slices.ContainsFunc(r.Kids, func(k *re.Re) bool { return has(k, s) })
	case re.Star:
		return hasMany(r.Kids[0], s)
	case re.And:
		return !slices.ContainsFunc(r.Kids, func(k *re.Re) bool { return !has(k, s) })
	case re.Minus:
		return has(r.Kids[0], s) && !has(r.Kids[1], s)
	}
	return false
}

func hasRow(kids []*re.Re, s string) bool {
	if len(kids) == 0 {
		return s == ""
	}
	for i := range len(s) + 1 {
		if has(kids[0], s[:i]) && hasRow(kids[1:], s[i:]) {
			return true
		}
	}
	return false
}

func hasMany(r *re.Re, s string) bool {
	if s == "" {
		return true
	}
	for i := range len(s) {
		if has(r, s[:i+1]) && hasMany(r, s[i+1:]) {
			return true
		}
	}
	return false
}

// byRules is By by P5.1's rules, as they stand there.
func byRules(r *re.Re, b byte) *re.Re {
	if r == nil {
		return re.Nothing()
	}
	switch r.Op {
	case re.Class:
		if r.Set.Has(b) {
			return re.Empty()
		}
	case re.Cat:
		first, others := r.Kids[0], re.Then(r.Kids[1:]...)
		d := re.Then(byRules(first, b), others)
		if first.Null() {
			d = re.Any(d, byRules(others, b))
		}
		return d
	case re.Star:
		return re.Then(byRules(r.Kids[0], b), r)
	case re.Or, re.And, re.Minus:
		var kids []*re.Re
		for _, k := range r.Kids {
			kids = append(kids, byRules(k, b))
		}
		return r.With(kids...)
	}
	return re.Nothing()
}

// hangs is the Sets on which By hangs, by P5.2's words, with the rules of byRules.
func hangs(r *re.Re) []set.Set {
	var list []set.Set
	if r == nil {
		return nil
	}
	switch r.Op {
	case re.Class:
		return []set.Set{r.Set}
	case re.Cat:
		list = hangs(r.Kids[0])
		if r.Kids[0].Null() {
			list = append(list, hangs(re.Then(r.Kids[1:]...))...)
		}
		return list
	}
	for _, k := range r.Kids {
		list = append(list, hangs(k)...)
	}
	return list
}

// words are all texts of up to four of three bytes, and some of other bytes.
func words() []string {
	list := []string{""}
	for from := 0; len(list[from]) < 4; from++ {
		for _, b := range []string{"a", "b", "c"} {
			list = append(list, list[from]+b)
		}
	}
	return append(list, "\x00", "\xff", "\x00\xff", "a\xffb", "?b")
}

// someBytes are those that the made expressions tell apart, and others.
const someBytes = "abcd\x00\xff\x7f\x80"

// draw is numbers in an order that looks like none, the same each time.
type draw uint64

func (d *draw) below(n int) int {
	*d = *d*6364136223846793005 + 1442695040888963407
	return int(uint64(*d)>>33) % n
}

func someSet(d *draw) set.Set {
	return []set.Set{
		set.Of('a'), set.Of('b'), set.Of('c'), set.Of('a', 'b'), set.Of('a', 'c'),
		set.All(), set.Of('a').Not(), set.Of(0, 255), {}, set.Of('a'),
	}[d.below(10)]
}

// pair makes an expression twice: written out by hand, part by part, and by layer 3's calls.
func pair(d *draw, deep int) (raw, kept *re.Re) {
	op := re.Op(d.below(8))
	if deep == 0 || op < re.Cat {
		switch d.below(6) {
		case 0:
			return nil, nil
		case 1, 2:
			return &re.Re{Op: re.Eps}, re.Empty()
		}
		s := someSet(d)
		return &re.Re{Op: re.Class, Set: s}, re.One(s)
	}
	n := 1 + d.below(4)
	switch op {
	case re.Star:
		n = 1
	case re.Minus:
		n = 2
	}
	raws, kids := make([]*re.Re, n), make([]*re.Re, n)
	for i := range n {
		raws[i], kids[i] = pair(d, deep-1)
		if raws[i] == nil && d.below(4) > 0 {
			// Few kids of none, since a row with one has no texts at all.
			raws[i], kids[i] = &re.Re{Op: re.Star, Kids: []*re.Re{{Op: re.Class, Set: set.Of('b')}}}, re.Many(re.Word("b"))
		}
	}
	return &re.Re{Op: op, Kids: raws}, call(op, kids)
}

func call(op re.Op, kids []*re.Re) *re.Re {
	switch op {
	case re.Cat:
		return re.Then(kids...)
	case re.Or:
		return re.Any(kids...)
	case re.And:
		return re.Both(kids...)
	case re.Star:
		return re.Many(kids[0])
	}
	return re.But(kids[0], kids[1])
}

// samples are many expressions that the calls made, and the same written out by hand.
func samples(n int) (raw, kept []*re.Re) {
	d := draw(5)
	for i := range n {
		r, m := pair(&d, 1+i%4)
		raw, kept = append(raw, r), append(kept, m)
	}
	return raw, kept
}

// read is an expression of a text.
func read(t *testing.T, s string) *re.Re {
	t.Helper()
	r, e, at := text.Read(s)
	if e != api.OK {
		t.Fatalf("%q: %d at %d", s, e, at)
	}
	return r
}

// odd are expressions that aren't made as P3.1 says.
func odd() []*re.Re {
	a := re.Word("a")
	return []*re.Re{
		{Op: re.Star}, {Op: re.Minus}, {Op: re.Cat}, {Op: re.Or}, {Op: re.And}, {Op: re.Class}, {Op: 8}, {Op: -1},
		{Op: 99, Kids: []*re.Re{a, nil}}, {Op: re.Star, Kids: []*re.Re{nil}}, {Op: re.Star, Kids: []*re.Re{a, a}},
		{Op: re.Minus, Kids: []*re.Re{a}}, {Op: re.Minus, Kids: []*re.Re{a, nil, a}}, {Op: re.None, Kids: []*re.Re{a}},
		{Op: re.Eps, Set: set.All()}, {Op: re.Cat, Set: set.All(), Kids: []*re.Re{nil, nil}}, {Op: re.Class, Kids: []*re.Re{a}},
		{Op: re.Cat, Kids: []*re.Re{{Op: re.Star}, nil, a}}, {Op: re.Or, Kids: []*re.Re{nil, {Op: re.Cat}}},
	}
}
