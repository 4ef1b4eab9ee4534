package deriv

import (
	"slices"
	"testing"

	"periscope/part"
	"periscope/re"
	"periscope/set"
	"periscope/text"
)

// sets are sets of one byte each.
func sets(s string) []set.Set {
	var list []set.Set
	for i := range len(s) {
		list = append(list, set.Of(s[i]))
	}
	return list
}

func TestSetsByHand(t *testing.T) {
	ab := set.Of('a', 'b')
	for _, c := range []struct {
		r    string
		want []set.Set
	}{
		{"[]", nil},
		{"()", nil},
		{"a", sets("a")},
		{".", []set.Set{set.All()}},
		{"ab", sets("ab")},
		{"ba", sets("ba")},
		// A set of several classes stands there several times.
		{"aba", sets("aba")},
		{"a*b?c", sets("abc")},
		{"(ab|c)*", sets("cab")},
		{"x|y*|zz", sets("xzzy")},
		{"(a|b)c(b|a)", []set.Set{ab, set.Of('c'), ab}},
		{"ba-(a-c)b", sets("baab")},
		{"ba-(ab&ac*)", append(sets("ba"), sets("abac")...)},
		{"[^a]*[]?", []set.Set{set.Of('a').Not()}},
	} {
		if got := Sets(read(t, c.r)); !slices.Equal(got, c.want) {
			t.Errorf("Sets of %s: %x, not %x", c.r, got, c.want)
		}
	}
	if len(Sets(nil)) != 0 {
		t.Error("Sets of nil")
	}
}

// The classes from the left on, found by going over a list of what is still to be seen.
func TestSets(t *testing.T) {
	raw, kept := samples(2000)
	for _, r := range append(raw, kept...) {
		var want []set.Set
		for todo := []*re.Re{r}; len(todo) > 0; {
			x := todo[0]
			todo = todo[1:]
			if x == nil {
				continue
			}
			if x.Op == re.Class {
				want = append(want, x.Set)
			}
			todo = append(slices.Clone(x.Kids), todo...)
		}
		if got := Sets(r); !slices.Equal(got, want) {
			t.Fatalf("Sets of %s: %x", text.Of(r), got)
		}
	}
}

func TestSetsAreNew(t *testing.T) {
	r := read(t, "abc")
	first := Sets(r)
	first[0] = set.All()
	if r.Kids[0].Set != set.Of('a') || !slices.Equal(Sets(r), sets("abc")) {
		t.Error("an answer shares memory")
	}
}

func TestPartsByHand(t *testing.T) {
	for _, c := range []struct {
		r    string
		want []set.Set // those whose bytes are told apart
	}{
		{"[]", nil},
		{"()", nil},
		{".", nil},
		{".*abc", sets("a")},
		{"a", sets("a")},
		{"[a-c]", []set.Set{set.From('a', 'c')}},
		{"[^a]", sets("a")},
		{"ab", sets("a")},
		{"abc*", sets("a")},
		{"a*b", sets("ab")},
		{"a*bc", sets("ab")},
		{"a?b*c?d", sets("abcd")},
		{"a?b*c?", sets("abc")},
		{"a?b*cd?e", sets("abc")},
		{"(ab)*", sets("a")},
		{"(ab)*cd", sets("ac")},
		{"((ab)*c)*d", sets("acd")},
		{"(a?b)*", sets("ab")},
		{"ab|cd", sets("ac")},
		{"ab|c?de", sets("acd")},
		{"(ab|cd)e", sets("ac")},
		{"(ab|c*d|())ef", sets("acde")},
		{"ab&cd", sets("ac")},
		{"(ab)*&(c?d)*", sets("acd")},
		{"ab-cd", sets("ac")},
		{"(ab-())c", sets("a")},
		{"(a*-())bc", sets("a")},
		{"(a*-b)cd", sets("abc")},
		{"[ab]x|[bc]y", []set.Set{set.Of('a', 'b'), set.Of('b', 'c')}},
		{`\x00\xff|\xffa`, sets("\x00\xff")},
	} {
		want := part.Refine(c.want...)
		if got := Parts(read(t, c.r)); !slices.Equal(got, want) {
			t.Errorf("Parts of %s: %x, not %x", c.r, got, want)
		}
	}
	if got := Parts(nil); !slices.Equal(got, []set.Set{set.All()}) {
		t.Errorf("Parts of nil: %x", got)
	}
	// All but a and b, a, and b: in the order of their least bytes.
	if got := Parts(read(t, "b|a*ac")); !slices.Equal(got, []set.Set{set.Of('a', 'b').Not(), set.Of('a'), set.Of('b')}) {
		t.Errorf("%x", got)
	}
}

func TestParts(t *testing.T) {
	_, kept := samples(4000)
	fewer := 0
	for _, r := range kept {
		got := Parts(r)
		if want := part.Refine(hangs(r)...); !slices.Equal(got, want) {
			t.Fatalf("Parts of %s: %x, not %x", text.Of(r), got, want)
		}
		if len(got) < len(part.Refine(Sets(r)...)) {
			fewer++
		}
	}
	if fewer < 100 {
		t.Error("too few in which By doesn't hang on all sets:", fewer)
	}
}

func TestByIsTheSameInAPart(t *testing.T) {
	raw, kept := samples(400)
	for _, r := range append(raw, kept...) {
		for _, p := range Parts(r) {
			b, ok := p.Least()
			if !ok {
				t.Fatal("an empty part")
			}
			want := By(r, b)
			for c := range p.Bytes() {
				if d := By(r, c); !d.Same(want) {
					t.Fatalf("By of %s: %s of %q, %s of %q", text.Of(r), text.Of(want), b, text.Of(d), c)
				}
			}
		}
	}
}

func TestPartsAreAllBytes(t *testing.T) {
	raw, kept := samples(1000)
	for _, r := range append(raw, kept...) {
		var all set.Set
		n, last := 0, -1
		for _, p := range Parts(r) {
			least, _ := p.Least()
			if int(least) <= last {
				t.Fatalf("Parts of %s in another order", text.Of(r))
			}
			all, n, last = all.Or(p), n+p.Len(), int(least)
		}
		if all != set.All() || n != 256 {
			t.Fatalf("Parts of %s: %d bytes", text.Of(r), n)
		}
	}
}

func TestSetsOfDeep(t *testing.T) {
	r := re.Word("a")
	for range 1 << 15 {
		r = re.Many(re.Then(r, re.Word("b")))
	}
	if list := Sets(r); len(list) != 1<<15+1 || list[0] != set.Of('a') || list[1<<15] != set.Of('b') {
		t.Error(len(list))
	}
	if p := Parts(r); len(p) != 3 || p[1] != set.Of('a') || p[2] != set.Of('b') {
		t.Error(p)
	}
}
