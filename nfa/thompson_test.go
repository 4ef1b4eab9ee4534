package nfa

import (
	"math"
	"strings"
	"testing"

	"periscope/api"
	"periscope/deriv"
	"periscope/dfa"
	"periscope/re"
	"periscope/set"
	"periscope/table"
	"periscope/text"
)

// built is what layer 6's Build takes of each And and Minus that isn't within another one.
func built(t *testing.T, r *re.Re) int {
	t.Helper()
	if r == nil {
		return 0
	}
	if r.Op == re.And || r.Op == re.Minus {
		d, e := dfa.Build(r, dfa.Grant(100000))
		if e != api.OK {
			t.Fatal(e)
		}
		return d.Len()
	}
	n := 0
	for _, k := range r.Kids {
		n += built(t, k)
	}
	return n
}

func TestThompson(t *testing.T) {
	list := texts(headBytes, 3)
	more := 0
	for _, r := range samples(700, 7) {
		b := dfa.Grant(100000)
		n, e := Thompson(r, b)
		if e != api.OK || !n.Valid() {
			t.Fatalf("Thompson of %s: %d", text.Of(r), e)
		}
		for _, s := range list {
			if n.Match(s) != deriv.Match(r, s) {
				t.Fatalf("Thompson of %s: %q", text.Of(r), s)
			}
		}
		// All texts, not the short ones only.
		x, _ := table.From(r, dfa.Grant(100000))
		if s, ok := table.Unlike(subset(t, n), x); ok {
			t.Fatalf("Thompson of %s: %q", text.Of(r), s)
		}
		by := built(t, r)
		if b.Used() != len(n.Yes)+by {
			t.Fatalf("Thompson of %s: %d states and %d built, %d used", text.Of(r), len(n.Yes), by, b.Used())
		}
		if by > 0 && r.Op != re.And && r.Op != re.Minus {
			more++
		}
	}
	if more < 100 {
		t.Error("few samples:", more)
	}
}

// Without And and Minus there are at most 2 times Size states.
func TestThompsonIsSmall(t *testing.T) {
	for _, r := range samples(1500, 5) {
		n := thompson(t, r)
		if r != nil && len(n.Yes) > 2*r.Size() || r == nil && len(n.Yes) > 2 {
			t.Fatalf("Thompson of %s, of Size %d: %d states", text.Of(r), r.Size(), len(n.Yes))
		}
	}
	// So of a Size up to 2500 there are never too many.
	star := re.Many(re.One(set.Of('a')))
	stars := make([]*re.Re, 1249)
	for i := range stars {
		stars[i] = star
	}
	nested := star
	for nested.Size() < 2498 {
		nested = re.Many(re.Then(nested, re.One(set.Of('b'))))
	}
	for name, r := range map[string]*re.Re{
		"a word":       re.Word(strings.Repeat("ab", 1249)),
		"many stars":   re.Then(stars...),
		"nested stars": nested,
	} {
		if n := r.Size(); n < 2495 || n > 2500 {
			t.Error(name, "of Size", n)
		}
		b := dfa.Grant(2 * r.Size())
		if n, e := Thompson(r, b); e != api.OK || !n.Valid() || b.Used() != len(n.Yes) {
			t.Error(name, "tells", e)
		}
	}
}

func TestThompsonOfNothing(t *testing.T) {
	for _, r := range []*re.Re{nil, re.Nothing(), {}} {
		b := dfa.Grant(2)
		n, e := Thompson(r, b)
		if e != api.OK || !n.Valid() || b.Used() != len(n.Yes) {
			t.Fatal(e, n)
		}
		if x := subset(t, n).Least(); len(x.Yes) != 1 || x.Yes[0] {
			t.Error("Nothing has texts")
		}
	}
}

func TestThompsonTakes(t *testing.T) {
	for _, s := range []string{"[]", "()", "a", "(ab)*", "a|b*c", "(ab&.*)", "x(.*-(ab)*)*y", "(ab&ac)z", "(a*&b*)(a*&b*)(a*-b)"} {
		r := read(t, s)
		need := len(thompson(t, r).Yes) + built(t, r)
		for k := range need {
			b := dfa.Grant(k)
			if n, e := Thompson(r, b); e != api.ErrBudget || !isEmpty(n) || b.Take(1) != api.ErrBudget {
				t.Errorf("%s by %d of %d: %d", s, k, need, e)
			}
		}
		b := dfa.Grant(need)
		if n, e := Thompson(r, b); e != api.OK || !n.Valid() || b.Used() != need {
			t.Errorf("%s by %d: %d, %d used", s, need, e, b.Used())
		}
		if n, e := Thompson(r, nil); e != api.ErrBudget || !isEmpty(n) {
			t.Errorf("%s by none: %d", s, e)
		}
	}
}

// However the states are laid, a word needs one more than it has bytes.
func TestThompsonOfMany(t *testing.T) {
	for _, length := range []int{api.MaxStates, 2 * api.MaxStates, 60000} {
		w := re.Word(strings.Repeat("ab", length/2))
		if n, e := Thompson(w, dfa.Grant(1000000)); e != api.ErrMany || !isEmpty(n) {
			t.Error("a word of", length, "tells", e)
		}
		// Where both are told, ErrBudget is the first one.
		for _, granted := range []int{100, api.MaxStates, length} {
			if n, e := Thompson(w, dfa.Grant(granted)); e != api.ErrBudget || !isEmpty(n) {
				t.Error("a word of", length, "by", granted, "tells", e)
			}
		}
	}
	// The states of layer 6 are too many, too.
	minus := re.But(re.Word(strings.Repeat("a", api.MaxStates)), re.Word("b"))
	if n, e := Thompson(minus, dfa.Grant(100000)); e != api.ErrMany || !isEmpty(n) {
		t.Error("a Minus tells", e)
	}
	if n, e := Thompson(minus, dfa.Grant(api.MaxStates+100)); e != api.ErrBudget || !isEmpty(n) {
		t.Error("a Minus by too few tells", e)
	}
}

// Layer 6 builds no state of a Size above 20 times MaxNodes.
func TestThompsonOfGreat(t *testing.T) {
	great := re.Both(re.Word("ab"), re.Word(strings.Repeat("c", 20*api.MaxNodes)))
	for _, r := range []*re.Re{great, re.Then(re.Word("x"), re.Many(great))} {
		if n, e := Thompson(r, dfa.Grant(1000000)); e != api.ErrBudget || !isEmpty(n) {
			t.Error(e)
		}
	}
}

// Parts that are used again and again make what is far greater than the memory that it takes.
func TestThompsonOfDoubled(t *testing.T) {
	both := re.Both(read(t, "(ab)*"), read(t, ".*b"))
	for name, r := range map[string]*re.Re{"a byte": re.Word("a"), "an And": both} {
		for range 5 {
			r = re.Many(re.Then(r, r))
		}
		b := dfa.Grant(100000)
		n, e := Thompson(r, b)
		if e != api.OK || b.Used() != len(n.Yes)+built(t, r) {
			t.Error(name, "five times:", e, len(n.Yes), b.Used())
		}
		if need := b.Used(); need > 0 {
			if _, e := Thompson(r, dfa.Grant(need-1)); e != api.ErrBudget {
				t.Error(name, "by too few:", e)
			}
		}
		for range 200 {
			r = re.Many(re.Then(r, r))
		}
		for _, granted := range []int{0, 10, 100000, 1 << 40} {
			if n, e := Thompson(r, dfa.Grant(granted)); e != api.ErrBudget || !isEmpty(n) {
				t.Error(name, "by", granted, "tells", e)
			}
		}
		if n, e := Thompson(r, dfa.Grant(math.MaxInt)); e == api.OK || !isEmpty(n) {
			t.Error(name, "by all that there are tells", e)
		}
	}
}

// What was written out by hand has the texts that layer 3 says.
func TestThompsonOfRaw(t *testing.T) {
	a, none := &re.Re{Op: re.Class, Set: set.Of('a')}, &re.Re{}
	eps := &re.Re{Op: re.Eps}
	node := func(op re.Op, kids ...*re.Re) *re.Re { return &re.Re{Op: op, Kids: kids} }
	for _, c := range []struct {
		r    *re.Re
		want string
	}{
		{node(re.Star, node(re.Cat, a, eps, node(re.Or, a, a, nil))), "(aa)*"},
		{node(re.Star, node(re.Star, a)), "a*"},
		{node(re.Or, a, none, node(re.Or, eps)), "a|()"},
		{node(re.Cat, a, nil), "[]"},
		{node(re.Cat), "()"},
		{node(re.Or), "[]"},
		{node(re.Minus, node(re.Star, a), a), "a*-a"},
		{node(re.And, node(re.Star, a), node(re.Cat, a, a)), "aa"},
		{&re.Re{Op: re.Class}, "[]"},
	} {
		x, want := subset(t, thompson(t, c.r)), subset(t, thompson(t, read(t, c.want)))
		if s, ok := table.Unlike(x, want); ok {
			t.Errorf("not %s: %q", c.want, s)
		}
	}
	for _, r := range []*re.Re{node(re.Star), node(re.Minus), node(re.Minus, a), node(99, a), node(-1, a), node(re.And)} {
		thompson(t, r)
	}
}
