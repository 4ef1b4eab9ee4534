package dfa

import (
	"slices"
	"testing"

	"periscope/api"
	"periscope/deriv"
	"periscope/part"
	"periscope/re"
	"periscope/set"
	"periscope/text"
)

// has is P3.1's own words for the texts of an expression, which the other tests are held against.
func has(r *re.Re, s string) bool {
	if r == nil {
		return false
	}
	switch r.Op {
	case re.Eps:
		return s == ""
	case re.Class:
		return len(s) == 1 && r.Set.Has(s[0])
	case re.Cat:
		return hasRow(r.Kids, s)
	case re.Or:
		return slices.ContainsFunc(r.Kids, func(k *re.Re) bool { return has(k, s) })
	case re.Star:
		return hasMany(r.Kids[0], s)
	case re.And:
		return !slices.ContainsFunc(r.Kids, func(k *re.Re) bool { return !has(k, s) })
	case re.Minus:
		return has(r.Kids[0], s) && !has(r.Kids[1], s)
	}
	return false
}

func hasRow(kids []*re.Re, s string) bool {
	if len(kids) == 0 {
		return s == ""
	}
	for i := range len(s) + 1 {
		if has(kids[0], s[:i]) && hasRow(kids[1:], s[i:]) {
			return true
		}
	}
	return false
}

func hasMany(r *re.Re, s string) bool {
	if s == "" {
		return true
	}
	for i := range len(s) {
		if has(r, s[:i+1]) && hasMany(r, s[i+1:]) {
			return true
		}
	}
	return false
}

// model is states by P6.2's words, as they stand there: each expression is held against all others.
type model struct {
	heads  []byte
	states []*re.Re
}

// modelOf is the states of an expression; nil, if there are more than a bound.
func modelOf(r *re.Re, bound int) *model {
	m := &model{states: []*re.Re{r}}
	for _, p := range part.Refine(deriv.Sets(r)...) {
		for b := range p.Bytes() {
			m.heads = append(m.heads, b)
			break
		}
	}
	for q := 0; q < len(m.states); q++ {
		for _, h := range m.heads {
			if x := deriv.By(m.states[q], h); m.number(x) < 0 {
				m.states = append(m.states, x)
			}
		}
		if len(m.states) > bound {
			return nil
		}
	}
	return m
}

func (m *model) number(x *re.Re) int { return slices.IndexFunc(m.states, x.Same) }

// live is the states from which one that is Null can be reached, found by going on till nothing is new.
func (m *model) live() []bool {
	out := make([]bool, len(m.states))
	for again := true; again; {
		again = false
		for q, x := range m.states {
			alive := x.Null()
			for _, h := range m.heads {
				alive = alive || out[m.number(deriv.By(x, h))]
			}
			if alive && !out[q] {
				out[q], again = true, true
			}
		}
	}
	return out
}

// words are all texts of up to four of three bytes, and some of other bytes.
func words() []string {
	list := []string{""}
	for from := 0; len(list[from]) < 4; from++ {
		for _, b := range []string{"a", "b", "c"} {
			list = append(list, list[from]+b)
		}
	}
	return append(list, "\x00", "\xff", "\x00\xff", "a\xffb", "?b", "\xff\xff\xff")
}

// draw is numbers in an order that looks like none, the same each time.
type draw uint64

func (d *draw) below(n int) int {
	*d = *d*6364136223846793005 + 1442695040888963407
	return int(uint64(*d)>>33) % n
}

func someSet(d *draw) set.Set {
	return []set.Set{
		set.Of('a'), set.Of('b'), set.Of('c'), set.Of('a', 'b'), set.Of('a', 'c'),
		set.All(), set.Of('a').Not(), set.Of(0, 255), set.Of('b'), set.Of('a'),
	}[d.below(10)]
}

// some makes an expression by layer 3's calls.
func some(d *draw, deep int) *re.Re {
	op := d.below(7)
	if deep == 0 || op == 0 {
		if d.below(6) == 0 {
			return re.Empty()
		}
		return re.One(someSet(d))
	}
	var kids []*re.Re
	for range 2 + d.below(2) {
		kids = append(kids, some(d, deep-1))
	}
	switch op {
	case 1, 2:
		return re.Then(kids...)
	case 3:
		return re.Any(kids...)
	case 4:
		return re.Both(kids...)
	case 5:
		return re.But(kids[0], kids[1])
	}
	return re.Many(kids[0])
}

// samples are many expressions, those of no texts among them.
func samples(n int) []*re.Re {
	d := draw(6)
	list := []*re.Re{re.Nothing(), re.Empty(), re.Both()}
	for i := range n {
		list = append(list, some(&d, 1+i%6))
	}
	return list
}

// read is an expression of a text.
func read(t *testing.T, s string) *re.Re {
	t.Helper()
	r, e, at := text.Read(s)
	if e != api.OK {
		t.Fatalf("%q: %d at %d", s, e, at)
	}
	return r
}

// build is the states of an expression by a budget that is great enough.
func build(t *testing.T, r *re.Re) *Dfa {
	t.Helper()
	d, e := Build(r, Grant(100000))
	if e != api.OK || d == nil {
		t.Fatalf("%s: %d", text.Of(r), e)
	}
	return d
}

// great is an expression of a Size (7 at least) that has two states only: by no byte both of its words go on.
func great(size int) *re.Re {
	n := size - 3
	w := make([]byte, n)
	for i := range w {
		w[i] = 'x'
	}
	w[0], w[n/2] = 'a', 'b'
	return re.Both(re.Word(string(w[:n/2])), re.Word(string(w[n/2:])))
}
