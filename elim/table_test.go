package elim

import (
	"reflect"
	"strings"
	"testing"

	"periscope/api"
	"periscope/deriv"
	"periscope/part"
	"periscope/re"
	"periscope/set"
	"periscope/table"
)

func TestTextsByHand(t *testing.T) {
	for _, s := range []string{"(ab)*", "a", "()", "a*", "(a|b)*c-abc", "a(b|c)*d|xy", "~(~()ab~())", "[^a]*", "(aaa)*|(aa)*"} {
		r := read(t, s)
		for name, x := range map[string]table.Table{"": from(t, r), ", least": from(t, r).Least(), ", not": from(t, r).Not()} {
			got, e := Texts(x)
			if e != api.OK {
				t.Errorf("%s%s: %d", s, name, e)
				continue
			}
			want := r
			if name == ", not" {
				want = re.But(re.Both(), r)
			}
			wantSame(t, s+name, got, want)
		}
	}
}

func TestTextsOfNothingAndAll(t *testing.T) {
	for _, r := range []*re.Re{nil, re.Nothing(), re.Empty(), re.Both()} {
		got, e := Texts(from(t, r))
		if e != api.OK {
			t.Error(e)
		}
		wantSame(t, "nothing and all", got, r)
	}
}

func TestTexts(t *testing.T) {
	d := draw(141)
	for i := range 300 {
		x := someTable(&d, 1+i%7)
		r, e := Texts(x)
		if e != api.OK || r == nil {
			t.Fatal(e)
		}
		for _, s := range texts("abc\x00\x01", 4) {
			if deriv.Match(r, s) != x.Match(s) {
				t.Fatalf("%q: %v, %v", s, x.Match(s), x)
			}
		}
		if back := from(t, r); !reflect.DeepEqual(back.Least(), x.Least()) {
			w, _ := table.Unlike(back, x)
			t.Errorf("%q is a text of one only", w)
		}
	}
	for range 100 {
		r := some(&d, 3)
		if x := from(t, r); len(x.Yes) < 10 {
			got, e := Texts(x)
			if e != api.OK {
				t.Fatal(e)
			}
			wantSame(t, "the Table of an expression", got, r)
		}
	}
}

// leads is P14.2's own words for a text that leads from a state to another one, through those below one alone.
func leads(x table.Table, from, to, below int, s string) bool {
	q := from
	for i := range len(s) {
		if i > 0 && q >= below {
			return false
		}
		q = x.Step(q, s[i])
	}
	return q == to
}

func TestBetween(t *testing.T) {
	d := draw(142)
	list := texts("abc\x00", 4)
	for i := range 30 {
		x := someTable(&d, 1+i%5)
		n := len(x.Yes)
		for at := range n * n * (n + 1) {
			from, to, below := at%n, at/n%n, at/n/n
			r, e := Between(x, from, to, below)
			if e != api.OK || r == nil {
				t.Fatal(e)
			}
			for _, s := range list {
				if deriv.Match(r, s) != leads(x, from, to, below, s) {
					t.Fatalf("%q from %d to %d below %d: %v", s, from, to, below, x)
				}
			}
		}
	}
}

func TestBetweenByHand(t *testing.T) {
	x := from(t, read(t, "(ab)*")) // 0: behind (ab)*; 1: where nothing leads on; 2: behind (ab)*a
	for _, c := range []struct {
		from, to, below int
		want            string
	}{
		{0, 0, 0, "()"}, {0, 0, 1, "()"}, {0, 0, 2, "()"}, {0, 0, 3, "(ab)*"},
		{0, 2, 0, "a"}, {0, 2, 1, "a"}, {0, 2, 3, "a(ba)*"},
		{2, 2, 0, "()"}, {2, 2, 1, "()|ba"}, {2, 2, 3, "(ba)*"}, {2, 0, 0, "b"}, {2, 0, 1, "b"}, {2, 0, 3, "(ba)*b"},
		{1, 1, 0, "()|[^]"}, {1, 1, 1, "()|[^]"}, {1, 1, 2, "[^]*"}, {0, 1, 0, "[^a]"}, {0, 1, 2, "[^a][^]*"}, {2, 1, 1, "[^b]|b[^a]"}, {2, 1, 3, "((ba)*[^b]|b(ab)*[^a])[^]*"},
	} {
		got, e := Between(x, c.from, c.to, c.below)
		if e != api.OK {
			t.Fatal(e)
		}
		wantSame(t, c.want, got, read(t, c.want))
	}
}

func wrongTables() map[string]table.Table {
	return map[string]table.Table{
		"nothing at all":   {},
		"no states":        {Parts: []set.Set{set.All()}},
		"no rows":          {Parts: []set.Set{set.All()}, Yes: []bool{true}},
		"a short row":      {Parts: []set.Set{set.Of('a').Not(), set.Of('a')}, Next: [][]int{{0}}, Yes: []bool{true}},
		"another state":    {Parts: []set.Set{set.All()}, Next: [][]int{{1}}, Yes: []bool{true}},
		"a state below 0":  {Parts: []set.Set{set.All()}, Next: [][]int{{-1}}, Yes: []bool{true}},
		"not all bytes":    {Parts: []set.Set{set.Of('a')}, Next: [][]int{{0}}, Yes: []bool{true}},
		"a byte twice":     {Parts: []set.Set{set.All(), set.All()}, Next: [][]int{{0, 0}}, Yes: []bool{true}},
		"too many states":  ring(api.MaxSolve + 1),
		"far too many":     ring(api.MaxStates + 1),
		"many, not valid":  {Parts: []set.Set{set.All()}, Yes: make([]bool, api.MaxSolve+1)},
		"a row for no Yes": {Parts: []set.Set{set.All()}, Next: [][]int{{0}}},
	}
}

func TestWrong(t *testing.T) {
	for name, x := range wrongTables() {
		if r, e := Texts(x); e != api.ErrArg || r != nil {
			t.Errorf("Texts, %s: %d", name, e)
		}
		if r, e := Between(x, 0, 0, 0); e != api.ErrArg || r != nil {
			t.Errorf("Between, %s: %d", name, e)
		}
	}
	x := ring(3)
	for _, c := range [][3]int{{-1, 0, 0}, {3, 0, 0}, {0, -1, 0}, {0, 3, 0}, {0, 0, -1}, {0, 0, 4}, {1 << 62, 0, 0}, {0, 0, -1 << 63}, {3, 3, 4}} {
		if r, e := Between(x, c[0], c[1], c[2]); e != api.ErrArg || r != nil {
			t.Error(c, e)
		}
	}
}

// As many states as may be, where one leads on to few others.
func TestGreat(t *testing.T) {
	x := ring(api.MaxSolve)
	if r, e := Texts(x); e != api.OK || !deriv.Match(r, strings.Repeat("x", 120)) || deriv.Match(r, strings.Repeat("x", 61)) {
		t.Error(e)
	}
	if r, e := Between(x, 59, 1, 60); e != api.OK || !deriv.Match(r, "xx") || !deriv.Match(r, strings.Repeat("x", 62)) || deriv.Match(r, "x") {
		t.Error(e)
	}
	w := strings.Repeat("perisco", 8)
	for _, r := range []*re.Re{re.Word(w), re.Many(re.Word(w)), re.Then(re.Both(), re.Word(w)), re.Then(re.Both(), re.Word(w), re.Both())} {
		x := from(t, r).Least()
		got, e := Texts(x)
		if e != api.OK {
			t.Fatal(len(x.Yes), "states:", e)
		}
		wantSame(t, w, got, r)
	}
}

// States to which nothing leads make no expression greater.
func TestTextsOfWhatIsReached(t *testing.T) {
	x := crowd(50)
	for b := range 256 {
		x.Next[0][b], x.Next[1][b] = 1, 0
	}
	x.Yes[0] = true
	r, e := Texts(x)
	if e != api.OK {
		t.Fatal(e)
	}
	wantSame(t, "two states of many", r, read(t, "([^][^])*"))
}

// Of four states each of which leads to each other one nothing is too great; of many it is.
func TestMany(t *testing.T) {
	d := draw(149)
	for i := range 40 {
		x := mixed(&d, 1+i%4, bytewise())
		if i == 3 {
			x = crowd(4)
		}
		if r, e := Texts(x); e != api.OK || r == nil {
			t.Error(e)
		}
		n := len(x.Yes)
		for at := range n * n * (n + 1) {
			if r, e := Between(x, at%n, at/n%n, at/n/n); e != api.OK || r == nil {
				t.Error(at, e)
			}
		}
	}
	for _, x := range []table.Table{crowd(30), crowd(api.MaxSolve), mixed(&d, api.MaxSolve, bytewise())} {
		n := len(x.Yes)
		if r, e := Texts(x); e != api.ErrMany || r != nil {
			t.Error(n, "states:", e)
		}
		if r, e := Between(x, 0, 0, n); e != api.ErrMany || r != nil {
			t.Error(n, "states:", e)
		}
		if r, e := Between(x, 0, 1, 3); e != api.OK || r == nil {
			t.Error(n, "states, through three:", e)
		}
	}
	for i := range 60 {
		x := mixed(&d, 5+i%6, part.Refine(bytewise()[:8+i%9]...))
		if r, e := Texts(x); e == api.OK && r.Size() > 20*api.MaxNodes || e != api.OK && (e != api.ErrMany || r != nil) {
			t.Error(e, r.Size())
		}
	}
}

func TestTurnsNothing(t *testing.T) {
	d := draw(1490)
	for range 30 {
		x := someTable(&d, 4)
		kept := x.Not().Not()
		r, _ := Texts(x)
		again, _ := Texts(x)
		b, _ := Between(x, 1, 2, 4)
		if more, _ := Between(x, 1, 2, 4); !r.Same(again) || !b.Same(more) {
			t.Error("not the same, asked again")
		}
		if !reflect.DeepEqual(x, kept) {
			t.Fatal("a Table was turned")
		}
	}
}
