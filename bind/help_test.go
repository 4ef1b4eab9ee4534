package bind

import (
	"fmt"
	"slices"
	"strings"
	"testing"

	"periscope/api"
	"periscope/lens"
	"periscope/parse"
)

// draw is numbers in an order that looks like none, the same each time.
type draw uint64

func (d *draw) below(n int) int {
	*d = *d*6364136223846793005 + 1442695040888963407
	return int(uint64(*d)>>33) % n
}

func pick[T any](d *draw, list ...T) T { return list[d.below(len(list))] }

// read is a program that layer 15 can read.
func read(s string) *parse.Program {
	p, e, at := parse.Read(s)
	if e != api.OK {
		panic(fmt.Sprint(short(s), e, at))
	}
	return p
}

// someTerm is a term as it is written, in which these names stand: those for an expression among the first
// ones, mostly.
func someTerm(d *draw, deep int, exprs, names []string) string {
	sub := func() string { return someTerm(d, deep-1, exprs, names) }
	arg := pick(d, append(exprs, "/a/", "/(a|b)*c/")...)
	if d.below(12) == 0 {
		arg = pick(d, names...)
	}
	kind := d.below(16)
	if deep == 0 {
		kind %= 9
	}
	switch kind {
	case 0, 1:
		return pick(d, names...)
	case 2:
		return pick(d, "/a/", "/b*/", `ins "b"`, `ins ""`)
	case 3:
		return "copy " + arg
	case 4:
		return "key " + pick(d, names...) + " " + arg
	case 5:
		return "const " + arg + ` "x" "y"`
	case 6:
		return "del " + arg + ` "z"`
	case 7:
		return "keep " + arg
	case 8:
		return "norm " + arg + ` "x"`
	case 9:
		return "(" + sub() + ")*"
	case 10:
		return pick(d, "inv", "dict") + "(" + sub() + ")"
	case 11:
		return pick(d, "swap", "left", "right") + "(" + sub() + ", " + sub() + ")"
	}
	return "(" + sub() + ")" + pick(d, "|", ".", ";", " . ") + "(" + sub() + ")"
}

// someProgram is a program as it is written, most of whose names are bound to what they must be.
func someProgram(d *draw) string {
	s := ""
	exprs, names := []string{"/x*/"}, []string{"e0"}
	for i := range d.below(6) {
		name := fmt.Sprint("e", i)
		switch {
		case d.below(25) == 0:
			name = pick(d, names...)
		case i == 0 || d.below(2) == 0:
			s += "let " + name + " = " + pick(d, append(exprs, "/a|b/", "/[^c]/")...) + " in\n"
			exprs, names = append(exprs, name), append(names, name)
			continue
		}
		s += "let " + name + " = " + someTerm(d, d.below(3), exprs, names) + " in "
		names = append(names, name)
	}
	if d.below(20) == 0 {
		names = append(names, "unbound")
	}
	return s + someTerm(d, d.below(5), exprs, names)
}

// use is a Name of a term; expr: it stands in the place of an expression.
type use struct {
	name *lens.Term
	expr bool
}

var withExprs = []lens.Op{lens.Copy, lens.Key, lens.Const, lens.Del, lens.Keep, lens.Norm}

// uses are the Names of a term in the order of Walk.
func uses(t *lens.Term) []use {
	if t.Op == lens.Name {
		return []use{{t, false}}
	}
	var list []use
	for _, k := range t.Kids {
		for _, u := range uses(k) {
			u.expr = u.expr || slices.Contains(withExprs, t.Op)
			list = append(list, u)
		}
	}
	return list
}

// replaced is a term with the terms of names in their places.
func replaced(t *lens.Term, bound map[string]*lens.Term) *lens.Term {
	if t.Op == lens.Name {
		return replaced(bound[t.Name], nil)
	}
	out := *t
	out.Kids = nil
	for _, k := range t.Kids {
		out.Kids = append(out.Kids, replaced(k, bound))
	}
	if slices.Contains(withExprs, t.Op) && len(t.Kids) == 1 {
		out.Re, out.Kids = out.Kids[0].Re, nil
	}
	return &out
}

// resolved is P16.1 and P16.2 by their words: a term, or the first error, and where it is.
func resolved(p *parse.Program) (*lens.Term, api.Errno, api.Pos) {
	bound := map[string]*lens.Term{}
	lets := append(slices.Clone(p.Lets), parse.Let{Term: p.Body})
	for i, l := range lets {
		if _, ok := bound[l.Name]; ok {
			return nil, api.ErrTwice, l.At
		}
		for _, u := range uses(l.Term) {
			if _, ok := bound[u.name.Name]; !ok {
				return nil, api.ErrName, u.name.At
			}
			if u.expr && bound[u.name.Name].Op != lens.Re {
				return nil, api.ErrSort, u.name.At
			}
		}
		t := replaced(l.Term, bound)
		if t.Size() > 1000 {
			return nil, api.ErrMany, l.At
		}
		if t.Nest() > 60 {
			return nil, api.ErrDeep, l.At
		}
		if i == len(p.Lets) {
			return t, api.OK, 0
		}
		bound[l.Name] = t
	}
	return nil, api.ErrArg, 0
}

// parts is a term and all that is in it, each ahead of its own.
func parts(t *lens.Term) []*lens.Term {
	var list []*lens.Term
	t.Walk(func(k *lens.Term) bool {
		list = append(list, k)
		return true
	})
	return list
}

// dump is all of a term, with where its parts stand.
func dump(t *lens.Term) string {
	if t == nil {
		return "nil"
	}
	out := fmt.Sprintf("{%d@%d %q %q %q %q", t.Op, t.At, t.Name, t.Re.Key(), t.Text, t.Back)
	for _, k := range t.Kids {
		out += " " + dump(k)
	}
	return out + "}"
}

// dumpAll is all of a program, likewise.
func dumpAll(p *parse.Program) string {
	out := ""
	for _, l := range p.Lets {
		out += fmt.Sprintf("%q@%d %s\n", l.Name, l.At, dump(l.Term))
	}
	return out + dump(p.Body)
}

// short is a text for the eye.
func short(s string) string {
	if len(s) > 200 {
		return s[:100] + " .. " + s[len(s)-90:]
	}
	return s
}

func wantTerm(t *testing.T, s, want string) *lens.Term {
	t.Helper()
	x, e, at := Resolve(read(s))
	if e != api.OK || at != 0 {
		t.Fatalf("%q: %d at %d", short(s), e, at)
	}
	if x.String() != want {
		t.Errorf("%q is %q, not %q", short(s), short(x.String()), short(want))
	}
	return x
}

func wantError(t *testing.T, s string, e api.Errno, at int) {
	t.Helper()
	if x, f, y := Resolve(read(s)); x != nil || f != e || y != api.Pos(at) {
		t.Errorf("%q: %d at %d, not %d at %d", short(s), f, y, e, at)
	}
}

// doubled are so many Lets, each of which stands twice in the next one: the last one has 2^n-1 parts.
func doubled(n int) string {
	s := `let a0 = ins "" in `
	for i := 1; i < n; i++ {
		s += strings.ReplaceAll(fmt.Sprintf("let a%d = a# . a# in ", i), "#", fmt.Sprint(i-1))
	}
	return s
}
