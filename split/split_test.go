package split

import (
	"math"
	"slices"
	"strings"
	"sync"
	"testing"

	"periscope/ambig"
	"periscope/api"
	"periscope/dfa"
	"periscope/re"
	"periscope/text"
)

func TestExample(t *testing.T) {
	if x, y, e := Cat(side(t, "a*"), side(t, "b*"), "aabb", Fill(10)); x != "aa" || y != "bb" || e != api.OK {
		t.Error(x, y, e)
	}
}

// The states of both directions are taken of one budget, forward ones first: no fewer are enough.
func TestBuildTakes(t *testing.T) {
	for _, w := range []string{"[]", "()", "a", "(ab)*", "a*b", "(a|b)*a(a|b)(a|b)(a|b)", "(a|b)(a|b)(a|b)a(a|b)*", "a.*-.*b"} {
		r := read(t, w)
		one := dfa.Grant(1000)
		if _, e := dfa.Build(r, one); e != api.OK {
			t.Fatal(w, e)
		}
		both := dfa.Grant(1000 + one.Used())
		both.Take(one.Used())
		if _, e := dfa.Build(r.Back(), both); e != api.OK {
			t.Fatal(w, e)
		}
		n := both.Used()
		for k := range n {
			b := dfa.Grant(k)
			if s, e := Build(r, b); s != nil || e != api.ErrBudget || b.Used() != k || b.Take(1) != api.ErrBudget {
				t.Errorf("%s by %d: %d, Used %d", w, k, e, b.Used())
			}
		}
		for _, k := range []int{n, n + 1, 1000000} {
			b := dfa.Grant(k)
			if s, e := Build(r, b); s == nil || e != api.OK || b.Used() != n {
				t.Errorf("%s by %d: %d, Used %d, not %d", w, k, e, b.Used(), n)
			}
		}
	}
}

// Which byte is the fifth one from the end takes many states forward, few from the end: the other way round it is likewise.
func TestBuildOfBoth(t *testing.T) {
	for _, w := range []string{"(a|b)*a(a|b)(a|b)(a|b)(a|b)", "(a|b)(a|b)(a|b)(a|b)a(a|b)*"} {
		b := dfa.Grant(100)
		if _, e := Build(read(t, w), b); e != api.OK || b.Used() != 33+7 {
			t.Error(w, e, b.Used())
		}
	}
}

func TestBuildOfWrong(t *testing.T) {
	a := read(t, "a*")
	spent := dfa.Grant(100)
	spent.Take(101)
	for _, b := range []*dfa.Budget{nil, new(dfa.Budget), dfa.Grant(0), dfa.Grant(-1), spent} {
		for _, r := range []*re.Re{a, nil, re.Empty()} {
			if s, e := Build(r, b); s != nil || e != api.ErrBudget || b.Used() != 0 {
				t.Error(e, b.Used())
			}
		}
	}
	for _, r := range []*re.Re{nil, re.Nothing()} {
		b := dfa.Grant(2)
		s, e := Build(r, b)
		if s == nil || e != api.OK || b.Used() != 2 {
			t.Fatal(e, b.Used())
		}
		for _, w := range words() {
			if ok, e := s.Match(w, Fill(100)); ok || e != api.OK {
				t.Errorf("Nothing has %q: %d", w, e)
			}
		}
	}
}

// One that is too great is told so by the first Build, before anything is made of it.
func TestBuildOfGreat(t *testing.T) {
	const most = 20 * api.MaxNodes
	b := dfa.Grant(100)
	if s, e := Build(great(most), b); s == nil || e != api.OK || b.Used() != 4 {
		t.Error("the greatest one:", e, b.Used())
	}
	b = dfa.Grant(100)
	if s, e := Build(great(most+1), b); s != nil || e != api.ErrBudget || b.Used() != 1 {
		t.Error("one that is too great:", e, b.Used())
	}
	r := re.Word("a")
	for range 200 {
		r = re.Many(re.Then(r, r, re.Word("b")))
	}
	b = dfa.Grant(100)
	if s, e := Build(r, b); s != nil || e != api.ErrBudget || b.Used() != 1 {
		t.Error("one of parts that are used again and again:", e, b.Used())
	}
}

func TestMatch(t *testing.T) {
	list := words()
	yes := 0
	for _, r := range singles(600) {
		s := build(t, r)
		f := Fill(10000)
		for _, w := range list {
			used := f.Used()
			ok, e := s.Match(w, f)
			if want := has(r, w); ok != want || e != api.OK || f.Used() != used+len(w)+1 {
				t.Fatalf("%s, %q: %v, %d, not %v; %d burnt", text.Of(r), w, ok, e, want, f.Used()-used)
			}
			if ok {
				yes++
			}
		}
	}
	if yes < 5000 {
		t.Error("few samples:", yes)
	}
}

// A nil Side has no text, but steps are burnt all the same.
func TestMatchOfNil(t *testing.T) {
	var s *Side
	f := Fill(5)
	if ok, e := s.Match("", f); ok || e != api.OK || f.Used() != 1 {
		t.Error(ok, e, f.Used())
	}
	if ok, e := s.Match("abc", f); ok || e != api.OK || f.Used() != 5 {
		t.Error(ok, e, f.Used())
	}
	if ok, e := s.Match("", f); ok || e != api.ErrFuel || f.Used() != 5 {
		t.Error(ok, e, f.Used())
	}
	if ok, e := s.Match("", nil); ok || e != api.ErrFuel {
		t.Error(ok, e)
	}
	if ok, e := new(Side).Match("a", Fill(2)); ok || e != api.OK {
		t.Error("one that nobody built:", ok, e)
	}
}

// One step more than there are bytes, whether it is a text or not; with fewer none is left.
func TestMatchBurns(t *testing.T) {
	s := side(t, "(ab)*")
	for _, w := range []string{"", "a", "ab", "abab", "zzzzz", "ba\x00\xff"} {
		n := len(w) + 1
		for k := range n {
			f := Fill(k)
			if ok, e := s.Match(w, f); ok || e != api.ErrFuel || f.Used() != 0 || f.Burn(1) != api.ErrFuel {
				t.Errorf("%q by %d: %v, %d, Used %d", w, k, ok, e, f.Used())
			}
		}
		f := Fill(n)
		if ok, e := s.Match(w, f); ok != (strings.ReplaceAll(w, "ab", "") == "") || e != api.OK || f.Used() != n {
			t.Errorf("%q by %d: %v, %d, Used %d", w, n, ok, e, f.Used())
		}
		if ok, e := s.Match(w, nil); ok || e != api.ErrFuel {
			t.Errorf("%q without fuel: %v, %d", w, ok, e)
		}
	}
}

func TestPlacesByHand(t *testing.T) {
	for _, c := range []struct {
		x, y, w string
		want    []int
	}{
		{"a*", "a*", "", []int{0}},
		{"a*", "a*", "aa", []int{0, 1, 2}},
		{"a*", "b*", "aabb", []int{2}},
		{"a*", "b*", "bb", []int{0}},
		{"a*", "b*", "aa", []int{2}},
		{"a*", "b*", "ba", nil},
		{"()", ".*", "abc", []int{0}},
		{".*", "()", "abc", []int{3}},
		{"()", "()", "", []int{0}},
		{"()", "()", "a", nil},
		{"[]", ".*", "abc", nil},
		{".*", "[]", "abc", nil},
		{"[]", "[]", "", nil},
		{"a", "a", "", nil},
		{"a", "a", "aa", []int{1}},
		{"a", "a", "aaa", nil},
		// Which of the two comes first matters, and which way each is read.
		{"ab", "cd", "abcd", []int{2}},
		{"cd", "ab", "abcd", nil},
		{"ba", "dc", "abcd", nil},
		{"ab|abc", "d|cd", "abcd", []int{2, 3}},
		{"(aa)*", "(aaa)*", "aaaaaaa", []int{4}},
		{"(aa)*", "(aaa)*", "aaaaaa", []int{0, 6}},
		{"(aaa)*", "(aa)*", "aaaaaaa", []int{3}},
		{".*a", "b.*", "abab", []int{1, 3}},
		{`\x00*`, `\xff*`, "\x00\x00\xff", []int{2}},
		{"a.*", ".*-a.*", "ab", []int{1, 2}},
	} {
		f := Fill(100)
		list, e := Places(side(t, c.x), side(t, c.y), c.w, f)
		if !slices.Equal(list, c.want) || e != api.OK || f.Used() != 2*len(c.w)+2 {
			t.Errorf("%s and %s, %q: %v, %d, not %v; %d burnt", c.x, c.y, c.w, list, e, c.want, f.Used())
		}
	}
}

// Places and Cat, held against P8.1's words.
func TestPlacesAndCat(t *testing.T) {
	list := words()
	met := map[int]int{}
	all := singles(600)
	for i, x := range all {
		y := all[(i*7+3)%len(all)]
		if i%2 == 0 {
			y = re.Many(x)
		}
		s, z := build(t, x), build(t, y)
		for _, w := range list {
			want := splits(x, y, w)
			f := Fill(1000)
			got, e := Places(s, z, w, f)
			if !slices.Equal(got, want) || e != api.OK || f.Used() != 2*len(w)+2 {
				t.Fatalf("%s and %s, %q: %v, %d, not %v; %d burnt", text.Of(x), text.Of(y), w, got, e, want, f.Used())
			}
			head, tail, e := Cat(s, z, w, f)
			if f.Used() != 4*len(w)+4 {
				t.Fatalf("%d burnt", f.Used())
			}
			if len(want) == 1 && (head != w[:want[0]] || tail != w[want[0]:] || e != api.OK) {
				t.Fatalf("%s and %s, %q: %q and %q, %d, not at %v", text.Of(x), text.Of(y), w, head, tail, e, want)
			}
			if len(want) != 1 && (head != "" || tail != "" || e != api.ErrType) {
				t.Fatalf("%s and %s, %q: %q and %q, %d, but places %v", text.Of(x), text.Of(y), w, head, tail, e, want)
			}
			met[len(want)]++
		}
	}
	for n, least := range map[int]int{0: 10000, 1: 3000, 2: 500, 3: 100, 4: 50, 5: 10} {
		if met[n] < least {
			t.Error("few samples:", met)
		}
	}
}

func TestCatByHand(t *testing.T) {
	for _, c := range []struct {
		x, y, w    string
		head, tail string
		e          api.Errno
	}{
		{"a*", "b*", "aabb", "aa", "bb", api.OK},
		{"a*", "b*", "aa", "aa", "", api.OK},
		{"a*", "b*", "bb", "", "bb", api.OK},
		{"a*", "b*", "", "", "", api.OK},
		{"a*", "b*", "ba", "", "", api.ErrType},
		{"a*", "b*", "aabbc", "", "", api.ErrType},
		// Two places are as wrong as none; the text of no bytes has one.
		{"a*", "a*", "a", "", "", api.ErrType},
		{"a*", "a*", "", "", "", api.OK},
		{"a?", "ab", "aab", "a", "ab", api.OK},
		{"a?", "ab", "ab", "", "ab", api.OK},
		{"a|ab", "bc|c", "abc", "", "", api.ErrType},
		{"a|ab", "bc|c", "abbc", "ab", "bc", api.OK},
		{"[]", ".*", "a", "", "", api.ErrType},
	} {
		f := Fill(100)
		head, tail, e := Cat(side(t, c.x), side(t, c.y), c.w, f)
		if head != c.head || tail != c.tail || e != c.e || f.Used() != 2*len(c.w)+2 {
			t.Errorf("%s and %s, %q: %q, %q, %d; %d burnt", c.x, c.y, c.w, head, tail, e, f.Used())
		}
	}
}

func TestStarByHand(t *testing.T) {
	for _, c := range []struct {
		x, w string
		want []string
		e    api.Errno
	}{
		{"(ab|c)*", "abcab", []string{"ab", "c", "ab"}, api.OK},
		{"(ab|c)*", "ab", []string{"ab"}, api.OK},
		{"(ab|c)*", "", nil, api.OK},
		{"(ab|c)*", "a", nil, api.ErrType},
		{"(ab|c)*", "cabb", nil, api.ErrType},
		{"(ab|c)*", "dab", nil, api.ErrType},
		{"a*", "aaa", []string{"a", "a", "a"}, api.OK},
		{`(a*\n)*`, "aa\n\na\n", []string{"aa\n", "\n", "a\n"}, api.OK},
		{`(a*\n)*`, "aa\n\na", nil, api.ErrType},
		// What the first part is hangs on how many there are at the end.
		{"(0|01|11)*", "0111", []string{"01", "11"}, api.OK},
		{"(0|01|11)*", "01111", []string{"0", "11", "11"}, api.OK},
		{"(0|01|11)*", "011100", []string{"01", "11", "0", "0"}, api.OK},
		{"(0|01|11)*", "1011", nil, api.ErrType},
		// In two ways: a and ba, ab and a; the parts end wherever one of the ways can be cut.
		{"(a|ab|ba)*", "aba", []string{"a", "b", "a"}, api.OK},
		{"(aa|aaa)*", "aaaaa", []string{"aa", "a", "aa"}, api.OK},
		{".*", "xyz", []string{"x", "y", "z"}, api.OK},
		// Many of what has no text, or that of no bytes only.
		{"()", "", nil, api.OK},
		{"()", "a", nil, api.ErrType},
	} {
		f := Fill(100)
		list, e := Star(side(t, c.x), c.w, f)
		if !slices.Equal(list, c.want) || e != c.e || f.Used() != 2*len(c.w)+2 {
			t.Errorf("%s, %q: %q, %d, not %q, %d; %d burnt", c.x, c.w, list, e, c.want, c.e, f.Used())
		}
	}
}

// Star, held against all ways in which a text can be cut; where there is never more than one, that one is told.
func TestStar(t *testing.T) {
	list := words()
	sole, several, none := 0, 0, 0
	for _, x := range singles(600) {
		if x.Null() {
			continue
		}
		many := re.Many(x)
		_, twice, e := ambig.Iter(x, dfa.Grant(100000))
		if e != api.OK {
			t.Fatal(text.Of(x), e)
		}
		s := build(t, many)
		for _, w := range list {
			ways := rows(x, w)
			got, e := Star(s, w, Fill(2*len(w)+2))
			switch {
			case len(ways) == 0:
				none++
				if len(got) != 0 || e != api.ErrType {
					t.Fatalf("%s, %q: %q, %d", text.Of(many), w, got, e)
				}
			case twice:
				several++
				if want := cuts(w, splits(many, many, w)); !slices.Equal(got, want) || e != api.OK {
					t.Fatalf("%s, %q: %q, %d, not %q", text.Of(many), w, got, e, want)
				}
			default:
				sole++
				if len(ways) != 1 || !slices.Equal(got, ways[0]) || e != api.OK {
					t.Fatalf("%s, %q: %q, %d, not %q", text.Of(many), w, got, e, ways)
				}
			}
		}
	}
	if sole < 2000 || several < 2000 || none < 10000 {
		t.Error("few samples:", sole, several, none)
	}
}

// cuts are the parts of a text between places.
func cuts(w string, at []int) []string {
	var list []string
	for i := range len(at) - 1 {
		list = append(list, w[at[i]:at[i+1]])
	}
	return list
}

// Of a Side of which nothing is promised Star ends, and tells of no text that isn't one.
func TestStarOfOthers(t *testing.T) {
	for _, x := range []*Side{side(t, "[]"), side(t, "a"), side(t, "a|bb"), side(t, "aa*"), new(Side)} {
		for _, w := range words() {
			ok, _ := x.Match(w, Fill(100))
			if list, e := Star(x, w, Fill(100)); ok != (e == api.OK) || !ok && (e != api.ErrType || len(list) != 0) {
				t.Errorf("%q: %q, %d", w, list, e)
			}
		}
	}
}

// A nil Side is told ahead of fuel, and burns none.
func TestNil(t *testing.T) {
	a := side(t, "a*")
	for _, p := range [][2]*Side{{nil, a}, {a, nil}, {nil, nil}} {
		for _, f := range []*Fuel{nil, Fill(0), Fill(1), Fill(100)} {
			if list, e := Places(p[0], p[1], "aa", f); len(list) != 0 || e != api.ErrArg {
				t.Error("Places", list, e)
			}
			if x, y, e := Cat(p[0], p[1], "aa", f); x != "" || y != "" || e != api.ErrArg {
				t.Error("Cat", x, y, e)
			}
			if list, e := Star(nil, "aa", f); len(list) != 0 || e != api.ErrArg {
				t.Error("Star", list, e)
			}
			if f.Used() != 0 {
				t.Error(f.Used(), "burnt")
			}
		}
		f := Fill(1)
		Places(p[0], p[1], "aa", f)
		if f.Burn(1) != api.OK {
			t.Error("none is left")
		}
	}
}

// Twice as many as there are bytes, and one, at once: with one fewer nothing is told, none was burnt, and none is left.
func TestPlacesBurn(t *testing.T) {
	calls := []func(x *Side, w string, f *Fuel) (int, api.Errno){
		func(x *Side, w string, f *Fuel) (int, api.Errno) {
			list, e := Places(x, x, w, f)
			return len(list), e
		},
		func(x *Side, w string, f *Fuel) (int, api.Errno) {
			head, tail, e := Cat(x, x, w, f)
			return len(head) + len(tail), e
		},
		func(x *Side, w string, f *Fuel) (int, api.Errno) {
			list, e := Star(x, w, f)
			return len(list), e
		},
	}
	x := side(t, "(ab)*")
	for i, call := range calls {
		for _, w := range []string{"", "ab", "abab", "zzz"} {
			n := 2*len(w) + 2
			for k := range n {
				f := Fill(k)
				if got, e := call(x, w, f); got != 0 || e != api.ErrFuel || f.Used() != 0 || f.Burn(1) != api.ErrFuel {
					t.Errorf("call %d, %q by %d: %d, %d, Used %d", i, w, k, got, e, f.Used())
				}
			}
			for _, k := range []int{n, n + 1, math.MaxInt} {
				f := Fill(k)
				if _, e := call(x, w, f); e == api.ErrFuel || f.Used() != n {
					t.Errorf("call %d, %q by %d: %d, Used %d", i, w, k, e, f.Used())
				}
			}
			if got, e := call(x, w, nil); got != 0 || e != api.ErrFuel {
				t.Errorf("call %d, %q without fuel: %d, %d", i, w, got, e)
			}
		}
	}
}

// A long text is read as often as a short one: once for each Side.
func TestLong(t *testing.T) {
	const n = 1 << 20
	a, b := strings.Repeat("a", n), strings.Repeat("b", n)
	head, tail, e := Cat(side(t, "a*"), side(t, "b*"), a+b, Fill(4*n+2))
	if head != a || tail != b || e != api.OK {
		t.Error(len(head), len(tail), e)
	}
	list, e := Places(side(t, "a*"), side(t, "a*"), a, Fill(2*n+2))
	if len(list) != n+1 || !slices.IsSorted(list) || list[0] != 0 || list[n] != n || e != api.OK {
		t.Error(len(list), e)
	}
	parts, e := Star(side(t, "(ab|c)*"), strings.Repeat("abc", n), Fill(6*n+2))
	if len(parts) != 2*n || parts[0] != "ab" || parts[2*n-1] != "c" || e != api.OK {
		t.Error(len(parts), e)
	}
	parts, e = Star(side(t, "(ab|c)*"), strings.Repeat("abc", n)+"a", Fill(6*n+4))
	if len(parts) != 0 || e != api.ErrType {
		t.Error(len(parts), e)
	}
}

// Answers share nothing, and Sides don't turn: several may ask at a time, each by fuel of its own.
func TestNothingTurns(t *testing.T) {
	r := read(t, "(ab|c)*")
	key, s := r.Key(), build(t, r)
	var all sync.WaitGroup
	for range 4 {
		all.Go(func() {
			for range 50 {
				list, e := Places(s, s, "abcab", Fill(12))
				if !slices.Equal(list, []int{0, 2, 3, 5}) || e != api.OK {
					t.Error(list, e)
				}
				clear(list)
				parts, e := Star(s, "abcab", Fill(12))
				if !slices.Equal(parts, []string{"ab", "c", "ab"}) || e != api.OK {
					t.Error(parts, e)
				}
				clear(parts)
			}
		})
	}
	all.Wait()
	if r.Key() != key {
		t.Error("Build turned an expression")
	}
}
