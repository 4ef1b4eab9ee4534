package table

import (
	"slices"
	"strings"
	"testing"

	"periscope/api"
	"periscope/dfa"
	"periscope/part"
	"periscope/re"
	"periscope/set"
)

var ops = []re.Op{re.And, re.Or, re.Minus}

// holds is P12.3's words for the texts of a Pair.
func holds(x, y bool, op re.Op) bool {
	return op == re.And && x && y || op == re.Or && (x || y) || op == re.Minus && x && !y
}

// paired is P12.3's words for Pair: pairs of states, numbered as At does.
func paired(x, y Table, op re.Op) Table {
	out := Table{Parts: part.Refine(append(slices.Clone(x.Parts), y.Parts...)...)}
	list := [][2]int{{0, 0}}
	for i := 0; i < len(list); i++ {
		var row []int
		for _, p := range out.Parts {
			b, _ := p.Least()
			to := [2]int{leads(x, list[i][0], b), leads(y, list[i][1], b)}
			if !slices.Contains(list, to) {
				list = append(list, to)
			}
			row = append(row, slices.Index(list, to))
		}
		out.Next = append(out.Next, row)
		out.Yes = append(out.Yes, holds(x.Yes[list[i][0]], y.Yes[list[i][1]], op))
	}
	return out
}

// partners are pairs of Tables, few of which have the same texts.
func partners(n int) [][2]Table {
	d := draw(123)
	var list [][2]Table
	for range n {
		list = append(list, [2]Table{someTable(&d), someTable(&d)})
	}
	return list
}

func TestPair(t *testing.T) {
	short := texts(headBytes, 3)
	for _, p := range partners(250) {
		x, y := p[0], p[1]
		for _, op := range ops {
			b := dfa.Grant(1000)
			got, e := Pair(x, y, op, b)
			if want := paired(x, y, op); e != api.OK || !same(got, want) || !got.Valid() || b.Used() != len(want.Yes) {
				t.Fatalf("Pair of %v and %v by %d: %d, %v, not %v", x, y, op, e, got, want)
			}
			for _, s := range short {
				if got.Match(s) != holds(has(x, s), has(y, s), op) {
					t.Fatalf("Pair of %v and %v by %d: %q", x, y, op, s)
				}
			}
		}
	}
}

func TestPairTakes(t *testing.T) {
	x, y := ring(7), ring(11)
	for k := range 77 {
		b := dfa.Grant(k)
		if got, e := Pair(x, y, re.And, b); e != api.ErrBudget || !isEmpty(got) || b.Used() != k {
			t.Fatal(k, "states:", e, b.Used())
		}
	}
	b := dfa.Grant(80)
	if got, e := Pair(x, y, re.And, b); e != api.OK || len(got.Yes) != 77 || b.Used() != 77 {
		t.Error("77 states:", e, b.Used())
	}
	if got, e := Pair(ring(1), ring(1), re.And, nil); e != api.ErrBudget || !isEmpty(got) {
		t.Error("no budget:", e)
	}
}

// As many states as may be, and more: of those none is taken.
func TestPairOfMany(t *testing.T) {
	b := dfa.Grant(10000)
	if got, e := Pair(ring(8), ring(625), re.Minus, b); e != api.OK || len(got.Yes) != api.MaxStates || b.Used() != api.MaxStates {
		t.Error("as many as may be:", e, b.Used())
	}
	for _, granted := range []int{10000, api.MaxStates + 1, api.MaxStates} {
		b := dfa.Grant(granted)
		if got, e := Pair(ring(71), ring(73), re.Minus, b); e != api.ErrMany || !isEmpty(got) || b.Used() != api.MaxStates {
			t.Error(granted, "granted:", e, b.Used())
		}
	}
	b = dfa.Grant(api.MaxStates - 1)
	if got, e := Pair(ring(71), ring(73), re.Minus, b); e != api.ErrBudget || !isEmpty(got) || b.Used() != api.MaxStates-1 {
		t.Error("too few granted:", e, b.Used())
	}
}

func TestPairOfOtherOps(t *testing.T) {
	x := from(t, read(t, "a*"))
	for _, op := range []re.Op{re.None, re.Eps, re.Class, re.Cat, re.Star, re.Minus + 1, -1} {
		b := dfa.Grant(0)
		if got, e := Pair(x, x, op, b); e != api.ErrArg || !isEmpty(got) || b.Used() != 0 {
			t.Error("Op", op, ":", e)
		}
	}
}

func TestUnlikeByHand(t *testing.T) {
	for _, c := range []struct {
		x, y, want string
		ok         bool
	}{
		{"(ab)*", "(abab)*", "ab", true},
		{"a*", "(aa)*", "a", true},
		{"a*", "(a|b)*-.*b.*", "", false},
		{"[]", ".*-.*", "", false},
		{"[]", "()", "", true},
		{"()", ".*", "\x00", true},
		{"x|zz", "zz|y", "x", true},
		{"zz", "abc", "zz", true},
		{"ba", "ab", "ab", true},
		{`\xff`, `\xfe`, "\xfe", true},
		{"[^a]", ".", "a", true},
		// By \x00 both lead on as well, but only behind a to what differs soonest.
		{".*-aab", ".*-ab", "ab", true},
		{"(...)*", "(.....)*", "\x00\x00\x00", true},
		{"[a-f][d-z]", "[a-f][e-z]", "ad", true},
	} {
		x, y := from(t, read(t, c.x)), from(t, read(t, c.y))
		for _, p := range [][2]Table{{x, y}, {y, x}} {
			if s, ok := Unlike(p[0], p[1]); s != c.want || ok != c.ok {
				t.Errorf("Unlike of %s and %s: %q, %v", c.x, c.y, s, ok)
			}
		}
		if s, ok := Unlike(x, x); s != "" || ok {
			t.Errorf("Unlike of %s and itself: %q, %v", c.x, s, ok)
		}
	}
}

// unlike is the least text by which two Tables differ, found by going to all pairs of their states.
func unlike(x, y Table) (string, bool) {
	type met struct {
		p, q int
		by   string
	}
	list := []met{{0, 0, ""}}
	known := map[[2]int]bool{{0, 0}: true}
	for i := 0; i < len(list); i++ {
		m := list[i]
		if x.Yes[m.p] != y.Yes[m.q] {
			return m.by, true
		}
		for b := range 256 {
			to := [2]int{leads(x, m.p, byte(b)), leads(y, m.q, byte(b))}
			if !known[to] {
				known[to] = true
				list = append(list, met{to[0], to[1], m.by + string([]byte{byte(b)})})
			}
		}
	}
	return "", false
}

func TestUnlike(t *testing.T) {
	long, none := 0, 0
	check := func(x, y Table) {
		t.Helper()
		got, ok := Unlike(x, y)
		want, wantOk := unlike(x, y)
		if got != want || ok != wantOk {
			t.Fatalf("Unlike of %v and %v: %q, %v, not %q, %v", x, y, got, ok, want, wantOk)
		}
		if len(got) > 3 {
			long++
		}
		if !ok {
			none++
		}
	}
	for _, p := range partners(1500) {
		x, y := p[0], p[1]
		check(x, y)
		// What differs in one state only, which is far off mostly.
		z := clone(x)
		q := len(z.Yes) - 1
		z.Yes[q] = !z.Yes[q]
		check(x, z)
		check(x.Least(), z)
		check(x, x.Least())
	}
	for n := range 200 {
		x, y := ring(1+n%13), ring(1+n/13)
		x.Yes[0], y.Yes[0] = n%3 == 0, n%3 == 0
		x.Yes[n%len(x.Yes)], y.Yes[n%len(y.Yes)] = true, true
		check(x, y)
	}
	if long < 60 || none < 1000 {
		t.Error("few samples:", long, none)
	}
}

// Of all texts, not of some ways through the states only.
func TestUnlikeByTexts(t *testing.T) {
	list := texts(headBytes, 4)
	for _, p := range partners(150) {
		x, y := p[0], p[1]
		i := slices.IndexFunc(list, func(s string) bool { return has(x, s) != has(y, s) })
		got, ok := Unlike(x, y)
		if i >= 0 && (!ok || got != list[i]) || i < 0 && ok && len(got) <= 4 {
			t.Fatalf("Unlike of %v and %v: %q, %v", x, y, got, ok)
		}
	}
}

// Two rings have some millions of pairs of states, of which few need to be gone to.
func TestUnlikeOfMany(t *testing.T) {
	x, y := ring(4999), ring(5000)
	if s, ok := Unlike(x, y); !ok || s != strings.Repeat("\x00", 4999) {
		t.Error(len(s), ok)
	}
	x.Yes[0], y.Yes[0] = false, false
	if s, ok := Unlike(x, y); ok {
		t.Error(len(s), ok)
	}
	x.Yes[4998], y.Yes[4998] = true, true
	if s, ok := Unlike(x, y); !ok || s != strings.Repeat("\x00", 4998+4999) {
		t.Error(len(s), ok)
	}
	for q := range y.Yes {
		x.Yes[q%4999], y.Yes[q] = true, true
	}
	if s, ok := Unlike(x, y); ok {
		t.Error(len(s), ok)
	}
	y.Yes[4999] = false
	if s, ok := Unlike(x, y); !ok || s != strings.Repeat("\x00", 4999) {
		t.Error(len(s), ok)
	}
}

// The parts of both cut all bytes: a byte that stands for a part of one of them may be of another part of the other.
func TestPartsOfBoth(t *testing.T) {
	x := Table{[]set.Set{set.From(0, 99), set.From(100, 255)}, [][]int{{0, 1}, {1, 1}}, []bool{false, true}}
	y := Table{[]set.Set{set.From(0, 149), set.From(150, 255)}, [][]int{{0, 1}, {1, 1}}, []bool{false, true}}
	got, e := Pair(x, y, re.Minus, dfa.Grant(10))
	parts := []set.Set{set.From(0, 99), set.From(100, 149), set.From(150, 255)}
	if e != api.OK || !same(got, Table{parts, [][]int{{0, 1, 2}, {1, 1, 2}, {2, 2, 2}}, []bool{false, true, false}}) {
		t.Error(e, got)
	}
	if s, ok := Unlike(x, y); s != "d" || !ok {
		t.Errorf("%q, %v", s, ok)
	}
}
