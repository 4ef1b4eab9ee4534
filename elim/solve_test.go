package elim

import (
	"slices"
	"strings"
	"testing"

	"periscope/api"
	"periscope/deriv"
	"periscope/re"
	"periscope/set"
)

func TestSolveByHand(t *testing.T) {
	for _, c := range []struct {
		name string
		rows [][]string // none: nil
		ends []string
		want []string
	}{
		{"an end alone", [][]string{{""}}, []string{"ab"}, []string{"ab"}},
		{"as often as one likes", [][]string{{"a"}}, []string{"b"}, []string{"a*b"}},
		{"no end", [][]string{{"a"}}, []string{""}, []string{"!"}},
		{"itself alone", [][]string{{"()"}}, []string{""}, []string{"!"}},
		{"itself, and an end", [][]string{{"()"}}, []string{"b"}, []string{"b"}},
		{"Null", [][]string{{"a?"}}, []string{"b"}, []string{"a*b"}},
		{"each the other", [][]string{{"", "()"}, {"()", ""}}, []string{"a", "b"}, []string{"a|b", "a|b"}},
		{"in turn", [][]string{{"", "a"}, {"b", ""}}, []string{"()", ""}, []string{"(ab)*", "b(ab)*"}},
		{"a way out", [][]string{{"a", "b"}, {"d", ""}}, []string{"c", ""}, []string{"(a|bd)*c", "d(a|bd)*c"}},
		{"a row", [][]string{{"", "a", ""}, {"", "", "b"}, {"", "", ""}}, []string{"", "", "c"}, []string{"abc", "bc", "c"}},
		{"a row, back", [][]string{{"", "", ""}, {"b", "", ""}, {"", "a", ""}}, []string{"c", "", ""}, []string{"c", "bc", "abc"}},
		{"two ways", [][]string{{"", "a", "b"}, {"", "", "c"}, {"", "", "d"}}, []string{"", "()", "x"}, []string{"a|(ac|b)d*x", "()|cd*x", "d*x"}},
		{"a dead end", [][]string{{"a", "b"}, {"", "c"}}, []string{"d", ""}, []string{"a*d", "!"}},
		{"not reached", [][]string{{"a", ""}, {"b", "c"}}, []string{"d", "x"}, []string{"a*d", "c*(x|ba*d)"}},
	} {
		of := func(s string) *re.Re {
			if s == "" {
				return nil
			}
			return read(t, s)
		}
		q := nothing(len(c.ends))
		for i := range c.ends {
			q.ends[i] = of(c.ends[i])
			for j := range c.ends {
				q.rows[i][j] = of(c.rows[i][j])
			}
		}
		got, e := Solve(q.rows, q.ends)
		if e != api.OK || len(got) != len(c.want) {
			t.Errorf("%s: %d, %d expressions", c.name, e, len(got))
			continue
		}
		for i, w := range c.want {
			want := re.Nothing()
			if w != "!" {
				want = read(t, w)
			}
			wantSame(t, c.name, got[i], want)
		}
	}
}

// The texts are those of the least solution by the words, which must be.
func TestSolveIsTheLeast(t *testing.T) {
	d := draw(14)
	list := texts("abc", 4)
	met := 0
	for range 300 {
		q := someEquations(&d)
		got, e := Solve(q.rows, q.ends)
		if e != api.OK || len(got) != len(q.ends) {
			t.Fatal(e, q.small())
		}
		for i, want := range q.least(list) {
			if len(want) > 0 && len(want) < len(list) {
				met++
			}
			for _, s := range list {
				if _, ok := want[s]; got[i] == nil || deriv.Match(got[i], s) != ok {
					t.Fatalf("%q is one of unknown %d: %v", s, i, ok)
				}
			}
		}
	}
	if met < 200 {
		t.Error("only", met, "unknowns of some of the texts")
	}
}

// All texts, however long, fulfil the equations.
func TestSolveFulfils(t *testing.T) {
	d := draw(140)
	for range 200 {
		q := full(1+d.below(3), func() *re.Re {
			return []*re.Re{nil, re.Word("a"), re.Word("b"), re.Word("ab"), re.Many(re.Word("c")), re.One(set.Of('b', 'c'))}[d.below(6)]
		})
		got, e := Solve(q.rows, q.ends)
		if e != api.OK {
			t.Fatal(e)
		}
		for i := range got {
			wantSame(t, "an equation", got[i], q.right(i, got))
		}
	}
}

func TestSolveOfAsManyAsMayBe(t *testing.T) {
	q := nothing(api.MaxSolve)
	for i := range q.ends {
		q.ends[i] = re.Word("z")
		if i+1 < len(q.ends) {
			q.rows[i][i+1] = re.One(set.Of(byte(i)))
		}
	}
	got, e := Solve(q.rows, q.ends)
	if e != api.OK || len(got) != api.MaxSolve {
		t.Fatal(e, len(got))
	}
	all := ""
	for i := range api.MaxSolve - 1 {
		all += string([]byte{byte(i)})
	}
	for i := range api.MaxSolve {
		for j := range api.MaxSolve {
			if i+j < api.MaxSolve && !deriv.Match(got[i], all[i:i+j]+"z") {
				t.Error("unknown", i, j, "bytes")
			}
		}
		if deriv.Match(got[i], all[i:]) || deriv.Match(got[i], all[i:]+"zz") || deriv.Match(got[i], "\x3cz") {
			t.Error("unknown", i)
		}
	}
}

func TestSolveOfNone(t *testing.T) {
	for _, rows := range [][][]*re.Re{nil, {}} {
		if got, e := Solve(rows, []*re.Re{}); e != api.OK || len(got) != 0 {
			t.Error(e, got)
		}
	}
}

func TestSolveWrong(t *testing.T) {
	a := re.Word("a")
	great := nothing(api.MaxSolve + 1)
	for name, q := range map[string]equations{
		"too many":              great,
		"too many, and no rows": {nil, great.ends},
		"no rows":               {nil, []*re.Re{a}},
		"no ends":               {[][]*re.Re{{a}}, nil},
		"a row of no ends":      {[][]*re.Re{nil}, nil},
		"a row too few":         {[][]*re.Re{{a, a}}, []*re.Re{a, a}},
		"a row too many":        {[][]*re.Re{{a, a}, {a, a}, {a, a}}, []*re.Re{a, a}},
		"a short row":           {[][]*re.Re{{a, a}, {a}}, []*re.Re{a, a}},
		"a long row":            {[][]*re.Re{{a, a, nil}, {a, a}}, []*re.Re{a, a}},
		"a row that is nil":     {[][]*re.Re{{a, a}, nil}, []*re.Re{a, a}},
	} {
		if got, e := Solve(q.rows, q.ends); e != api.ErrArg || got != nil {
			t.Errorf("%s: %d, %v", name, e, got)
		}
	}
}

// What is handed in stays as it is, what comes is new, and the same each time.
func TestSolveTurnsNothing(t *testing.T) {
	d := draw(1400)
	for range 100 {
		q := someEquations(&d)
		kept := q.clone()
		got, _ := Solve(q.rows, q.ends)
		again, _ := Solve(q.rows, q.ends)
		if !slices.EqualFunc(got, again, (*re.Re).Same) {
			t.Error("not the same, asked again")
		}
		for i := range got {
			got[i] = nil
		}
		if slices.Contains(again, nil) || !slices.Equal(q.ends, kept.ends) || !slices.EqualFunc(q.rows, kept.rows, slices.Equal[[]*re.Re]) {
			t.Fatal("what was handed in was turned, or an answer shared")
		}
	}
}

// Of what is small enough by P14.3's words nothing is ever too great, however great what is handed in is.
func TestSolveNeverMany(t *testing.T) {
	for n, size := range []int{0, 1249, 155, 18, 1} {
		b := byte(0)
		next := func() *re.Re {
			b++
			if size == 1 {
				return re.One(set.Of(b))
			}
			return re.Word(strings.Repeat(string([]byte{b}), size-1))
		}
		q := full(n, next)
		if q.greatest() != size || !q.small() {
			t.Fatal(n, q.greatest())
		}
		got, e := Solve(q.rows, q.ends)
		if e != api.OK || len(got) != n {
			t.Error(n, "unknowns:", e)
		}
	}
	d := draw(143)
	for range 300 {
		n := 1 + d.below(4)
		q := full(n, func() *re.Re { return some(&d, d.below(5)) })
		if _, e := Solve(q.rows, q.ends); e != api.OK && q.small() {
			t.Error(n, "unknowns:", e)
		}
	}
}

// ErrMany comes of all that only expressions could tell that are too great, and of nothing that is great enough.
func TestSolveMany(t *testing.T) {
	word := func(n int) *re.Re { return re.Word(strings.Repeat("a", n)) }
	row := func(n, m int) equations { // words of so many bytes, one behind the other
		return equations{[][]*re.Re{{nil, word(n)}, {nil, nil}}, []*re.Re{nil, word(m)}}
	}
	doubled := re.Word("ab")
	for range 100 {
		doubled = re.Any(re.Then(doubled, doubled), re.Word("a"))
	}
	end, loop, behind, alone := nothing(1), nothing(1), nothing(2), nothing(1)
	end.ends[0] = doubled
	loop.rows[0][0], loop.ends[0] = doubled, doubled
	behind.rows[0][1], behind.rows[0][0], behind.ends[0] = doubled, word(1), word(1)
	alone.rows[0][0] = doubled
	d := draw(144)
	long := []*re.Re{word(19000), word(19200), word(19499)}
	for _, c := range []struct {
		name string
		q    equations
		want api.Errno
	}{
		{"as great as may be", row(10000, 9999), api.OK},
		{"one above it", row(10000, 10000), api.ErrMany},
		{"an end as great as may be", row(0, 19999), api.OK},
		{"an end one above it", row(0, 20000), api.ErrMany},
		{"an end far above it", end, api.ErrMany},
		{"all far above it", loop, api.ErrMany},
		{"far above it, and nothing behind", behind, api.OK},
		{"far above it, as often as one likes, and nothing behind", alone, api.OK},
		{"all that may be, of letters", full(api.MaxSolve, func() *re.Re { return re.One(set.Of(byte(d.below(256)))) }), api.ErrMany},
		{"all that may be, of long words", full(api.MaxSolve, func() *re.Re { return long[d.below(3)] }), api.ErrMany},
	} {
		got, e := Solve(c.q.rows, c.q.ends)
		if e != c.want || e != api.OK && got != nil {
			t.Errorf("%s: %d, %d expressions", c.name, e, len(got))
		}
	}
}

// Whatever comes isn't too great.
func TestSolveWithinBounds(t *testing.T) {
	d := draw(145)
	met := [2]int{}
	for range 300 {
		q := full(3+d.below(8), func() *re.Re {
			if d.below(3) == 0 {
				return nil
			}
			return some(&d, 2)
		})
		got, e := Solve(q.rows, q.ends)
		if e != api.OK && (e != api.ErrMany || got != nil) {
			t.Fatal(e, got)
		}
		for _, r := range got {
			if r.Size() > 20*api.MaxNodes {
				t.Error("a Size of", r.Size())
			}
		}
		met[min(int(e), 1)]++
	}
	if met[0] < 50 || met[1] < 50 {
		t.Error(met)
	}
}
