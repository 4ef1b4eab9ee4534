package auto

import (
	"math"
	"reflect"
	"strings"
	"testing"

	"periscope/api"
	"periscope/deriv"
	"periscope/dfa"
	"periscope/re"
	"periscope/text"
)

func TestShortestByHand(t *testing.T) {
	for _, c := range []struct {
		r, want string
		ok      bool
	}{
		{"[]", "", false},
		{"()", "", true},
		{"a*", "", true},
		{"a", "a", true},
		{"ba|ab", "ab", true},
		// The shorter one is ahead, whatever its bytes are.
		{"aaa|zz", "zz", true},
		{"aaa|z", "z", true},
		{"aaa|zz|()", "", true},
		{"[x-z][b-d]", "xb", true},
		{"[^a]", "\x00", true},
		{`[^\x00]`, "\x01", true},
		{`[^\x00-a]`, "b", true},
		{`\xff|\xfe`, "\xfe", true},
		{"..", "\x00\x00", true},
		{".*-()", "\x00", true},
		{`.*-()-[\x00-c]`, "d", true},
		{".*-.?", "\x00\x00", true},
		{"(ab)*-()", "ab", true},
		// A byte ahead that leads to a longer text, or to none, isn't taken.
		{"a(b|cc)|bb", "ab", true},
		{"abc|bb", "bb", true},
		{"(a[])?b", "b", true},
		{"a(aa)*b|cb", "ab", true},
		{"(a|b)*b&(...)*-()", "aab", true},
		{"(a|b)*abb", "abb", true},
		{".*abc.*&.*cab.*", "cabc", true},
		{".*abc.*&.*cab.*-cabc", "\x00cabc", true},
		{".*abc.*&.*cab.*-.*cabc.*", "abcab", true},
		{"(aa)*a&(aa)*", "", false},
		{"(a|b)*-(a*b*)*", "", false},
		{"(aaaaa)*a&(aaa)*", strings.Repeat("a", 6), true},
		{"(aaaaaaa)*&(aaaaa)*&(aaa)*-()", strings.Repeat("a", 105), true},
		{"(a|b)*-(...)*-(..)*-.", "aaaaa", true},
	} {
		s, ok := Shortest(build(t, read(t, c.r)))
		if s != c.want || ok != c.ok {
			t.Errorf("Shortest of %s: %q, %v, not %q", c.r, s, ok, c.want)
		}
	}
}

func TestShortestOfNil(t *testing.T) {
	for _, d := range []*dfa.Dfa{nil, new(dfa.Dfa)} {
		if s, ok := Shortest(d); s != "" || ok {
			t.Errorf("%q, %v", s, ok)
		}
	}
}

func TestShortest(t *testing.T) {
	list := texts(headBytes, 4)
	met := map[int]int{}
	for _, r := range samples(1500) {
		s, ok := Shortest(build(t, r))
		want, found := least(list, func(s string) bool { return has(r, s) })
		switch {
		case found && (!ok || s != want):
			t.Fatalf("Shortest of %s: %q, %v, not %q", text.Of(r), s, ok, want)
		case !found && ok && (len(s) < 5 || !deriv.Match(r, s)):
			t.Fatalf("Shortest of %s: %q", text.Of(r), s)
		case !ok && s != "":
			t.Fatalf("no text of %s, but %q", text.Of(r), s)
		}
		if ok {
			met[len(s)]++
		} else {
			met[-1]++
		}
	}
	for n, least := range map[int]int{-1: 100, 0: 100, 1: 100, 2: 30, 3: 10} {
		if met[n] < least {
			t.Error("few samples:", met)
		}
	}
}

func TestShortestOfMany(t *testing.T) {
	w := strings.Repeat("abcdefghij", 150)
	if s, ok := Shortest(build(t, re.Word(w))); s != w || !ok {
		t.Error("a long word")
	}
	if s, ok := Shortest(build(t, far(t, 9))); s != strings.Repeat("a", 10) || !ok {
		t.Errorf("%q", s)
	}
	if s, ok := Shortest(build(t, re.But(far(t, 9), read(t, "aa*")))); s != "aaaaaaaaab" || !ok {
		t.Errorf("%q", s)
	}
}

func TestOfTwoByHand(t *testing.T) {
	type answer struct {
		s  string
		ok bool
	}
	none := answer{}
	for _, c := range []struct {
		x, y                          string
		outside, back, shared, unlike answer
	}{
		{"a*", "(aa)*", answer{"a", true}, none, answer{"", true}, answer{"a", true}},
		{"a*a*", "a*", none, none, answer{"", true}, none},
		{"ab", "a*b", none, answer{"b", true}, answer{"ab", true}, answer{"b", true}},
		{"[]", "[]", none, none, none, none},
		{"[]", "()", none, answer{"", true}, none, answer{"", true}},
		{"()", "[]", answer{"", true}, none, none, answer{"", true}},
		{"[]", ".*", none, answer{"", true}, none, answer{"", true}},
		{"a", "b", answer{"a", true}, answer{"b", true}, none, answer{"a", true}},
		{"b", "a", answer{"b", true}, answer{"a", true}, none, answer{"a", true}},
		{"bb|a", "c|bb", answer{"a", true}, answer{"c", true}, answer{"bb", true}, answer{"a", true}},
		// The least of both sides, not of the first one.
		{"aaa|b", "b|zz", answer{"aaa", true}, answer{"zz", true}, answer{"b", true}, answer{"zz", true}},
		{"(a|b)*", "(a*b*)*", none, none, answer{"", true}, none},
		{"(ab)*", "(ba)*", answer{"ab", true}, answer{"ba", true}, answer{"", true}, answer{"ab", true}},
		{"a(ba)*", "(ab)*a", none, none, answer{"a", true}, none},
		{"[a-m]", "[g-z]", answer{"a", true}, answer{"n", true}, answer{"g", true}, answer{"a", true}},
		{".", "[^x]", answer{"x", true}, none, answer{"\x00", true}, answer{"x", true}},
	} {
		x, y, b := read(t, c.x), read(t, c.y), dfa.Grant(10000)
		ask := func(name string, call func(x, y *re.Re, b *dfa.Budget) (string, bool, api.Errno), x, y *re.Re, want answer) {
			if s, ok, e := call(x, y, b); s != want.s || ok != want.ok || e != api.OK {
				t.Errorf("%s of %s and %s: %q, %v, %d", name, text.Of(x), text.Of(y), s, ok, e)
			}
		}
		ask("Outside", Outside, x, y, c.outside)
		ask("Outside", Outside, y, x, c.back)
		ask("Shared", Shared, x, y, c.shared)
		ask("Shared", Shared, y, x, c.shared)
		ask("Unlike", Unlike, x, y, c.unlike)
		ask("Unlike", Unlike, y, x, c.unlike)
	}
}

// Each answer against P3.1's words, text by text.
func TestOfTwo(t *testing.T) {
	list, all := texts(headBytes, 3), samples(900)
	met := map[string]int{}
	for i, x := range all {
		y := all[(i*7+3)%len(all)]
		if i%3 == 0 {
			y = re.Any(x, y)
		}
		for _, c := range []struct {
			name string
			call func(x, y *re.Re, b *dfa.Budget) (string, bool, api.Errno)
			is   func(s string) bool
		}{
			{"Outside", Outside, func(s string) bool { return has(x, s) && !has(y, s) }},
			{"Shared", Shared, func(s string) bool { return has(x, s) && has(y, s) }},
			{"Unlike", Unlike, func(s string) bool { return has(x, s) != has(y, s) }},
		} {
			s, ok, e := c.call(x, y, dfa.Grant(100000))
			if e != api.OK {
				t.Fatalf("%s of %s and %s: %d", c.name, text.Of(x), text.Of(y), e)
			}
			want, found := least(list, c.is)
			if found && (!ok || s != want) || !found && ok && (len(s) < 4 || !c.is(s)) || !ok && s != "" {
				t.Fatalf("%s of %s and %s: %q, %v, not %q", c.name, text.Of(x), text.Of(y), s, ok, want)
			}
			if ok {
				met[c.name]++
			} else {
				met["no "+c.name]++
			}
		}
	}
	for _, name := range []string{"Outside", "no Outside", "Shared", "no Shared", "Unlike", "no Unlike"} {
		if met[name] < 80 {
			t.Error("few samples:", met)
		}
	}
}

func TestOfNil(t *testing.T) {
	a := re.Word("a")
	for _, c := range []struct {
		call func(x, y *re.Re, b *dfa.Budget) (string, bool, api.Errno)
		x, y *re.Re
		want string
		ok   bool
	}{
		{Outside, nil, nil, "", false}, {Outside, a, nil, "a", true}, {Outside, nil, a, "", false},
		{Shared, nil, nil, "", false}, {Shared, a, nil, "", false}, {Shared, nil, a, "", false},
		{Unlike, nil, nil, "", false}, {Unlike, a, nil, "a", true}, {Unlike, nil, a, "a", true},
	} {
		if s, ok, e := c.call(c.x, c.y, dfa.Grant(100)); s != c.want || ok != c.ok || e != api.OK {
			t.Errorf("of %s and %s: %q, %v, %d", text.Of(c.x), text.Of(c.y), s, ok, e)
		}
		if s, ok, e := c.call(c.x, c.y, nil); s != "" || ok || e != api.ErrBudget {
			t.Errorf("of %s and %s by no budget: %q, %v, %d", text.Of(c.x), text.Of(c.y), s, ok, e)
		}
	}
	if s, ok, e := Witness(nil, dfa.Grant(1)); s != "" || ok || e != api.OK {
		t.Error("Witness of nil", s, ok, e)
	}
	if n, e := Least(nil, dfa.Grant(1)); n != 1 || e != api.OK {
		t.Error("Least of nil", n, e)
	}
}

func TestWitness(t *testing.T) {
	for _, r := range samples(300) {
		s, ok, e := Witness(r, dfa.Grant(100000))
		want, found := Shortest(build(t, r))
		if s != want || ok != found || e != api.OK {
			t.Fatalf("%s: %q, %v, %d", text.Of(r), s, ok, e)
		}
	}
}

// Each takes what Build takes of the one expression that is asked about, no more and no less: one state fewer, and
// ErrBudget is all that is told, even if a text could have been found by then.
func TestTaken(t *testing.T) {
	x, y := read(t, "(a|b)*a(a|b)"), read(t, "a*b*(ab)*")
	for i, c := range []struct {
		call func(b *dfa.Budget) (bool, api.Errno)
		r    *re.Re
	}{
		{func(b *dfa.Budget) (bool, api.Errno) { _, ok, e := Witness(x, b); return ok, e }, x},
		{func(b *dfa.Budget) (bool, api.Errno) { _, ok, e := Outside(x, y, b); return ok, e }, re.But(x, y)},
		{func(b *dfa.Budget) (bool, api.Errno) { _, ok, e := Shared(x, y, b); return ok, e }, re.Both(x, y)},
		{func(b *dfa.Budget) (bool, api.Errno) { _, ok, e := Unlike(x, y, b); return ok, e }, re.Any(re.But(x, y), re.But(y, x))},
		{func(b *dfa.Budget) (bool, api.Errno) { n, e := Least(y, b); return n > 0, e }, y},
	} {
		n := build(t, c.r).Len()
		b := dfa.Grant(n)
		if ok, e := c.call(b); !ok || e != api.OK || b.Used() != n {
			t.Errorf("call %d by %d: %v, %d, Used %d", i, n, ok, e, b.Used())
		}
		for k := range n {
			b := dfa.Grant(k)
			if ok, e := c.call(b); ok || e != api.ErrBudget || b.Used() != k {
				t.Errorf("call %d by %d: %v, %d, Used %d", i, k, ok, e, b.Used())
			}
		}
		if ok, e := c.call(nil); ok || e != api.ErrBudget {
			t.Errorf("call %d by nil: %v, %d", i, ok, e)
		}
	}
}

// What is told beside an error is nothing: a text there is not told, nor a number.
func TestErrors(t *testing.T) {
	great := re.Word(strings.Repeat("a", 20*api.MaxNodes))
	b := dfa.Grant(math.MaxInt)
	if s, ok, e := Witness(great, b); s != "" || ok || e != api.ErrBudget {
		t.Error("Witness", ok, e)
	}
	if s, ok, e := Outside(great, re.Word("b"), b); s != "" || ok || e != api.ErrBudget {
		t.Error("Outside", ok, e)
	}
	if s, ok, e := Shared(great, re.Word("b"), b); s != "" || ok || e != api.ErrBudget {
		t.Error("Shared", ok, e)
	}
	if s, ok, e := Unlike(great, re.Word("b"), b); s != "" || ok || e != api.ErrBudget {
		t.Error("Unlike", ok, e)
	}
	if n, e := Least(great, b); n != 0 || e != api.ErrBudget {
		t.Error("Least", n, e)
	}
	if n, e := Least(re.Word("a"), dfa.Grant(2)); n != 0 || e != api.ErrBudget {
		t.Error("Least", n, e)
	}
	// Layer 3 finds out by itself that this is nothing, so it needs one state only.
	if _, ok, e := Outside(great, great, dfa.Grant(1)); ok || e != api.OK {
		t.Error("Outside of itself", ok, e)
	}
}

func TestNothingTurns(t *testing.T) {
	list, again := samples(200), samples(200)
	for i, x := range list {
		y := list[(i+1)%len(list)]
		s, ok, _ := Unlike(x, y, dfa.Grant(100000))
		if s2, ok2, _ := Unlike(x, y, dfa.Grant(100000)); s != s2 || ok != ok2 {
			t.Error("another answer the second time")
		}
		Outside(x, y, dfa.Grant(10))
		Shared(x, y, dfa.Grant(10))
		Least(x, dfa.Grant(1000))
	}
	if !reflect.DeepEqual(list, again) {
		t.Error("a call turned an expression")
	}
}
