package re

import (
	"slices"
	"testing"

	"periscope/set"
)

// has is P3.1's own words for the texts of an expression, which the other tests are held against.
func has(r *Re, s string) bool {
	if r == nil {
		return false
	}
	switch r.Op {
	case Eps:
		return s == ""
	case Class:
		return len(s) == 1 && r.Set.Has(s[0])
	case Cat:
		return hasRow(r.Kids, s)
	case Or:
		return slices.ContainsFunc(r.Kids, func(k *Re) bool { return has(k, s) })
	case Star:
		return hasMany(r.Kids[0], s)
	case And:
		return !slices.ContainsFunc(r.Kids, func(k *Re) bool { return !has(k, s) })
	case Minus:
		return has(r.Kids[0], s) && !has(r.Kids[1], s)
	}
	return false
}

func hasRow(kids []*Re, s string) bool {
	if len(kids) == 0 {
		return s == ""
	}
	for i := range len(s) + 1 {
		if has(kids[0], s[:i]) && hasRow(kids[1:], s[i:]) {
			return true
		}
	}
	return false
}

func hasMany(r *Re, s string) bool {
	if s == "" {
		return true
	}
	for i := range len(s) {
		if has(r, s[:i+1]) && hasMany(r, s[i+1:]) {
			return true
		}
	}
	return false
}

// words are all texts of up to four of three bytes, and some of other bytes.
func words() []string {
	list := []string{""}
	for from := 0; len(list[from]) < 4; from++ {
		for _, b := range []string{"a", "b", "c"} {
			list = append(list, list[from]+b)
		}
	}
	return append(list, "\x00", "\xff", "\x00\xff", "a\xffb", "?b")
}

// backward is a text read from its end.
func backward(s string) string {
	b := []byte(s)
	slices.Reverse(b)
	return string(b)
}

func sameTexts(t *testing.T, what string, x, y *Re) {
	t.Helper()
	for _, s := range words() {
		if has(x, s) != has(y, s) {
			t.Fatalf("%s: %q is a text of %s: %v; of %s: %v", what, s, show(x), has(x, s), show(y), has(y, s))
		}
	}
}

// show is an expression for the eye.
func show(r *Re) string {
	if r == nil {
		return "nil"
	}
	out := []string{"None", "Eps", "Class", "Cat", "Or", "Star", "And", "Minus"}[r.Op]
	if r.Op == Class {
		out += " " + string(slices.Collect(r.Set.Bytes()))
	}
	for _, k := range r.Kids {
		out += " (" + show(k) + ")"
	}
	return out
}

// draw is numbers in an order that looks like none, the same each time.
type draw uint64

func (d *draw) below(n int) int {
	*d = *d*6364136223846793005 + 1442695040888963407
	return int(uint64(*d)>>33) % n
}

func someSet(d *draw) set.Set {
	return []set.Set{
		set.Of('a'), set.Of('b'), set.Of('c'), set.Of('a', 'b'), set.Of('a', 'c'),
		set.All(), set.Of('a').Not(), set.Of(0, 255), {}, set.Of('a'),
	}[d.below(10)]
}

// pair makes an expression twice: written out by hand, part by part, and by the calls.
func pair(d *draw, deep int) (*Re, *Re) {
	op := Op(d.below(8))
	if deep == 0 {
		op %= 3
	}
	switch op {
	case None:
		if d.below(2) == 0 {
			return nil, nil
		}
		return &Re{}, Nothing()
	case Eps:
		return &Re{Op: Eps}, Empty()
	case Class:
		s := someSet(d)
		return &Re{Op: Class, Set: s}, One(s)
	}
	n := d.below(4)
	switch op {
	case Star:
		n = 1
	case Minus:
		n = 2
	}
	raw, kids := make([]*Re, n), make([]*Re, n)
	for i := range n {
		raw[i], kids[i] = pair(d, deep-1)
	}
	return &Re{Op: op, Kids: raw}, call(op, kids)
}

func call(op Op, kids []*Re) *Re {
	switch op {
	case Cat:
		return Then(kids...)
	case Or:
		return Any(kids...)
	case And:
		return Both(kids...)
	case Star:
		return Many(kids[0])
	}
	return But(kids[0], kids[1])
}

// samples are many expressions that the calls made, and what they were made of.
func samples(n int) (raw, kept []*Re) {
	d := draw(3)
	for i := range n {
		r, m := pair(&d, 1+i%4)
		raw, kept = append(raw, r), append(kept, m)
	}
	return raw, kept
}

// faults is what of an expression isn't in the settled form by P3.2's words.
func faults(r *Re) []string {
	var out []string
	bad := func(wrong bool, what string) {
		if wrong {
			out = append(out, what+" in "+show(r))
		}
	}
	kid := func(ops ...Op) bool {
		return slices.ContainsFunc(r.Kids, func(k *Re) bool { return k == nil || slices.Contains(ops, k.Op) })
	}
	bad(r.Op != Class && r.Set != set.Set{}, "a set")
	switch r.Op {
	case None, Eps:
		bad(len(r.Kids) != 0, "kids")
	case Class:
		bad(len(r.Kids) != 0 || r.Set.Empty(), "a class of nothing")
	case Cat:
		bad(len(r.Kids) < 2, "few kids")
		bad(kid(Cat, Eps, None), "a kid that shouldn't be")
	case Or, And:
		bad(len(r.Kids) < 2, "few kids")
		bad(kid(r.Op, None), "a kid that shouldn't be")
		n := 0
		for i, k := range r.Kids {
			if k.Op == Class {
				n++
			}
			bad(i > 0 && r.Kids[i-1].Key() >= k.Key(), "another order")
		}
		bad(n > 1, "two classes")
	case Star:
		bad(len(r.Kids) != 1 || kid(Star, Eps, None), "a kid that shouldn't be")
	case Minus:
		bad(len(r.Kids) != 2 || kid(None), "a kid that shouldn't be")
		bad(r.Kids[0].Key() == r.Kids[1].Key(), "the same twice")
		bad(r.Kids[0].Op == Class && r.Kids[1].Op == Class, "two classes")
	default:
		bad(true, "another Op")
	}
	for _, k := range r.Kids {
		out = append(out, faults(k)...)
	}
	return out
}

func wantSettled(t *testing.T, r *Re) {
	t.Helper()
	if r == nil {
		t.Fatal("nil came")
	}
	for _, f := range faults(r) {
		t.Error(f)
	}
}
