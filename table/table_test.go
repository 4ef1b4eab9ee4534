package table

import (
	"math"
	"slices"
	"strings"
	"testing"

	"periscope/api"
	"periscope/deriv"
	"periscope/dfa"
	"periscope/part"
	"periscope/re"
	"periscope/set"
	"periscope/text"
)

func TestValid(t *testing.T) {
	bytes := Table{Next: [][]int{make([]int, 256)}, Yes: []bool{false}}
	for b := range 256 {
		bytes.Parts = append(bytes.Parts, set.Of(byte(b)))
	}
	odd := set.Of(0).Or(set.From(100, 200))
	for name, x := range map[string]Table{
		"one state":            ring(1),
		"states beyond reach":  {[]set.Set{set.All()}, [][]int{{0}, {1}, {0}}, []bool{false, true, false}},
		"as many as may be":    ring(api.MaxStates),
		"a Part for each byte": bytes,
		"Parts within others":  {[]set.Set{odd, odd.Not()}, [][]int{{0, 0}}, []bool{true}},
	} {
		if !x.Valid() {
			t.Error(name, "isn't valid")
		}
	}
	for i, x := range tables(300) {
		if !x.Valid() {
			t.Fatal("sample", i, "isn't valid")
		}
	}
	for name, x := range wrong() {
		if x.Valid() {
			t.Error(name, "is valid")
		}
	}
	// A Part more than there are bytes must be one that is wrong.
	bytes.Parts = append(bytes.Parts, set.Of(255))
	bytes.Next[0] = append(bytes.Next[0], 0)
	if bytes.Valid() {
		t.Error("257 Parts are valid")
	}
}

// What isn't valid has no answer but that.
func TestOfWhatIsntValid(t *testing.T) {
	good := from(t, read(t, "(ab)*"))
	for name, x := range wrong() {
		if x.Step(0, 'a') != -1 || x.Step(1, 0) != -1 || x.Step(-1, 'a') != -1 || x.Run("") != -1 || x.Run("ab") != -1 {
			t.Error(name, "leads to a state")
		}
		if x.Match("") || x.Match("a") {
			t.Error(name, "has texts")
		}
		for what, made := range map[string]Table{"Not": x.Not(), "At": x.At(0), "At 1": x.At(1), "At -1": x.At(-1), "Reach": x.Reach(), "Least": x.Least()} {
			if !isEmpty(made) {
				t.Error(what, "of", name, "has something")
			}
		}
		for _, pair := range [][2]Table{{x, good}, {good, x}, {x, x}} {
			if s, ok := Unlike(pair[0], pair[1]); s != "" || ok {
				t.Errorf("Unlike of %s: %q, %v", name, s, ok)
			}
			b := dfa.Grant(100)
			if made, e := Pair(pair[0], pair[1], re.And, b); e != api.ErrArg || !isEmpty(made) || b.Used() != 0 {
				t.Error("Pair of", name, "tells", e, "and takes", b.Used())
			}
		}
	}
}

func TestStep(t *testing.T) {
	for _, x := range tables(300) {
		for q := range x.Yes {
			for b := range 256 {
				if got, want := x.Step(q, byte(b)), leads(x, q, byte(b)); got != want {
					t.Fatalf("Step from %d by %d of %v: %d, not %d", q, b, x, got, want)
				}
			}
		}
		for _, q := range []int{-1, len(x.Yes), math.MaxInt, math.MinInt} {
			if got := x.Step(q, 'a'); got != -1 {
				t.Fatalf("Step from %d of %d states: %d", q, len(x.Yes), got)
			}
		}
	}
}

func TestRunAndMatch(t *testing.T) {
	list := texts(headBytes+"\xff", 3)
	for _, x := range tables(200) {
		for _, s := range list {
			q := 0
			for i := range len(s) {
				q = leads(x, q, s[i])
			}
			if got := x.Run(s); got != q {
				t.Fatalf("Run of %q, %v: %d, not %d", s, x, got, q)
			}
			if got := x.Match(s); got != x.Yes[q] {
				t.Fatalf("Match of %q, %v: %v", s, x, got)
			}
		}
	}
	if x := ring(4999); x.Run(strings.Repeat("a", 65536)) != 65536%4999 || x.Match(strings.Repeat("a", 65536)) || !x.Match(strings.Repeat("b", 49990)) {
		t.Error("a long text")
	}
}

func TestFrom(t *testing.T) {
	list := texts(headBytes, 3)
	for _, r := range samples(600) {
		b, other := dfa.Grant(10000), dfa.Grant(10000)
		x, e := From(r, b)
		d, _ := dfa.Build(r, other)
		if e != api.OK || !x.Valid() || len(x.Yes) != d.Len() || b.Used() != other.Used() {
			t.Fatalf("From %s: %d, %d states, %d used", text.Of(r), e, len(x.Yes), b.Used())
		}
		if !slices.Equal(x.Parts, part.Refine(deriv.Sets(r)...)) {
			t.Fatalf("From %s: %v", text.Of(r), x.Parts)
		}
		for q := range d.Len() {
			if x.Yes[q] != d.Yes(q) {
				t.Fatalf("From %s: Yes of %d", text.Of(r), q)
			}
			for b := range 256 {
				if got, want := x.Step(q, byte(b)), d.Step(q, byte(b)); got != want {
					t.Fatalf("From %s: %d leads by %d to %d, not %d", text.Of(r), q, b, got, want)
				}
			}
			if q == 10 {
				break
			}
		}
		for _, s := range list {
			if x.Match(s) != deriv.Match(r, s) {
				t.Fatalf("From %s: Match of %q", text.Of(r), s)
			}
		}
	}
}

func TestFromByHand(t *testing.T) {
	x := from(t, read(t, "(ab)*"))
	a, b := set.Of('a'), set.Of('b')
	// Of By of (ab)* by the others comes Nothing, by a b(ab)*.
	if !same(x, Table{[]set.Set{a.Or(b).Not(), a, b}, [][]int{{1, 2, 1}, {1, 1, 1}, {1, 1, 0}}, []bool{true, false, false}}) {
		t.Error(x)
	}
	for _, r := range []*re.Re{nil, re.Nothing()} {
		if x := from(t, r); !same(x, Table{[]set.Set{set.All()}, [][]int{{0}}, []bool{false}}) {
			t.Error(x)
		}
	}
	// Parts that lead to the same are kept: it is layer 5's Sets that cut them.
	if x := from(t, re.Then(re.One(set.Of('a')), re.Many(re.Many(re.One(set.Of('a', 'b')))))); len(x.Parts) != 3 {
		t.Error(x)
	}
}

// An expression that was written out by hand has the texts that layer 3 says, too.
func TestFromRaw(t *testing.T) {
	class := func(list ...byte) *re.Re { return &re.Re{Op: re.Class, Set: set.Of(list...)} }
	raw := &re.Re{Op: re.Star, Kids: []*re.Re{{Op: re.Or, Kids: []*re.Re{class('a'), class('b', 'c'), nil, {Op: re.Cat, Kids: []*re.Re{class('x'), {}}}}}}}
	x := from(t, raw)
	for _, s := range texts("abcdx", 4) {
		if want := !strings.ContainsAny(s, "dx"); x.Match(s) != want {
			t.Errorf("%q: %v", s, !want)
		}
	}
}

func TestFromErrors(t *testing.T) {
	r := far(t, 3)
	n := len(from(t, r).Yes)
	for k := range n {
		b := dfa.Grant(k)
		if x, e := From(r, b); e != api.ErrBudget || !isEmpty(x) || b.Used() != k {
			t.Fatal(k, "states of", n, ":", e, b.Used())
		}
	}
	if _, e := From(r, dfa.Grant(n)); e != api.OK {
		t.Error(n, "states are enough, but:", e)
	}
	for _, b := range []*dfa.Budget{nil, dfa.Grant(0), dfa.Grant(-1)} {
		if x, e := From(nil, b); e != api.ErrBudget || !isEmpty(x) {
			t.Error("no states:", e)
		}
	}
	// A word has a state for each of its beginnings, and one for all else.
	for more, want := range []api.Errno{api.OK, api.ErrMany, api.ErrMany} {
		w := re.Word(strings.Repeat("a", api.MaxStates-2+more))
		b := dfa.Grant(100000)
		x, e := From(w, b)
		if e != want || x.Valid() != (want == api.OK) || want != api.OK && !isEmpty(x) || b.Used() != api.MaxStates+more {
			t.Errorf("%d states: %d, %d used", api.MaxStates+more, e, b.Used())
		}
		// Where both are told, ErrBudget is the first one.
		if x, e := From(w, dfa.Grant(api.MaxStates-1+more)); e != api.ErrBudget || !isEmpty(x) {
			t.Errorf("%d states by too few: %d", api.MaxStates+more, e)
		}
	}
}

func TestNot(t *testing.T) {
	for _, x := range tables(300) {
		want := clone(x)
		for q := range want.Yes {
			want.Yes[q] = !want.Yes[q]
		}
		not := x.Not()
		if !same(not, want) || !same(not.Not(), x) {
			t.Fatalf("Not of %v: %v", x, not)
		}
	}
}

// at is P12.2's words for At: the states that texts lead to, numbered state by state, and Part by Part.
func at(t Table, q int) Table {
	list := []int{q}
	for i := 0; i < len(list); i++ {
		for _, to := range t.Next[list[i]] {
			if !slices.Contains(list, to) {
				list = append(list, to)
			}
		}
	}
	out := Table{Parts: t.Parts}
	for _, q := range list {
		var row []int
		for _, to := range t.Next[q] {
			row = append(row, slices.Index(list, to))
		}
		out.Next = append(out.Next, row)
		out.Yes = append(out.Yes, t.Yes[q])
	}
	return out
}

func TestAtAndReach(t *testing.T) {
	fewer := 0
	for _, x := range tables(500) {
		for q := range x.Yes {
			if got, want := x.At(q), at(x, q); !same(got, want) || !got.Valid() {
				t.Fatalf("At %d of %v: %v, not %v", q, x, got, want)
			}
		}
		for _, q := range []int{-1, len(x.Yes), math.MaxInt, math.MinInt} {
			if got := x.At(q); !isEmpty(got) {
				t.Fatalf("At %d of %d states: %v", q, len(x.Yes), got)
			}
		}
		got := x.Reach()
		if !same(got, at(x, 0)) {
			t.Fatalf("Reach of %v: %v", x, got)
		}
		if len(got.Yes) < len(x.Yes) {
			fewer++
		}
	}
	if fewer < 100 {
		t.Error("few samples:", fewer)
	}
	// The last one leads first to what has the greatest number.
	x := Table{[]set.Set{set.Of('a').Not(), set.Of('a')}, [][]int{{3, 1}, {1, 1}, {2, 2}, {0, 2}}, []bool{true, false, false, false}}
	if got := x.Reach(); !same(got, Table{x.Parts, [][]int{{1, 2}, {0, 3}, {2, 2}, {3, 3}}, []bool{true, false, false, false}}) {
		t.Error(got)
	}
	if n := len(ring(api.MaxStates).At(77).Yes); n != api.MaxStates {
		t.Error("as many as may be:", n)
	}
}

// What is made is new memory, and what is handed in stays as it is.
func TestNothingTurns(t *testing.T) {
	for i, x := range tables(60) {
		y := someTable(new(draw(uint64(i))))
		wasX, wasY := clone(x), clone(y)
		pair, _ := Pair(x, y, re.Or, dfa.Grant(1000))
		Unlike(x, y)
		for name, made := range map[string]Table{"Not": x.Not(), "At": x.At(len(x.Yes) - 1), "Reach": x.Reach(), "Least": x.Least(), "Pair": pair} {
			spoil(t, name, made)
			if !same(x, wasX) || !same(y, wasY) {
				t.Fatal(name, "turned what was handed in, or shares its memory")
			}
		}
	}
	r := read(t, "(ab)*c|d")
	spoil(t, "From", from(t, r))
	if !r.Same(read(t, "(ab)*c|d")) {
		t.Error("From turned an expression")
	}
}
