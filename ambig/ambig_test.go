package ambig

import (
	"reflect"
	"strings"
	"sync"
	"testing"

	"periscope/api"
	"periscope/deriv"
	"periscope/dfa"
	"periscope/re"
	"periscope/text"
)

func TestCatByHand(t *testing.T) {
	for _, c := range []struct {
		x, y string
		want Two
		ok   bool
	}{
		{"a*", "a*", Two{"a", 0, 1}, true},
		{"a*", "b*", Two{}, false},
		{"a|ab", "c|bc", Two{"abc", 1, 2}, true},
		// Nothing, and the text of no bytes: that one has one place only.
		{"[]", "[]", Two{}, false},
		{"()", "()", Two{}, false},
		{"[]", ".*", Two{}, false},
		{".*", "[]", Two{}, false},
		{"()", ".*", Two{}, false},
		{".*", "()", Two{}, false},
		{"a", "a*", Two{}, false},
		{"a*", "a", Two{}, false},
		// The second place may be the end, the first one the beginning.
		{"a?", "a?", Two{"a", 0, 1}, true},
		{"(abc)?", "(abc)?", Two{"abc", 0, 3}, true},
		{"xa?", "a?", Two{"xa", 1, 2}, true},
		{"a?", "a?x", Two{"ax", 0, 1}, true},
		{"xa?", "a?y", Two{"xay", 1, 2}, true},
		{"xa?b", "ba?y", Two{}, false},
		{"xb?", "b?a?y", Two{"xby", 1, 2}, true},
		// One of the two is of bytes that aren't there in the other one.
		{".*", "a", Two{}, false},
		{".*", "a|ba", Two{"ba", 0, 1}, true},
		{"a|ab", ".*-c.*", Two{"ab", 1, 2}, true},
		{"a|ab", ".*&(c.*)", Two{}, false},
		{"a|ab", "b?c", Two{"abc", 1, 2}, true},
		{"a(bb)*", "(bbb)*c", Two{"abbbbbbc", 1, 7}, true},
		{"a(bb)*", "b(bb)*c", Two{"abbbc", 1, 3}, true},
		{"a(bb)*b", "(bb)*c", Two{"abbbc", 2, 4}, true},
		{"(a|b)*a", "b*(a|b)", Two{}, false},
		{"(a|b)*a", "b*a|a", Two{}, false},
		{"(a|b)*a", "b*aa?", Two{"aaa", 1, 2}, true},
		// The bytes of both sets alone, of which neither is the least.
		{"[ac]?", "[bc]?", Two{"c", 0, 1}, true},
		{`[\x00-\x7f]?`, `[\x7f-\xff]?`, Two{"\x7f", 0, 1}, true},
		{`[\x00-\xfe]?`, `\xff?`, Two{}, false},
		{`[a\xff]?`, `[b\xff]?`, Two{"\xff", 0, 1}, true},
	} {
		got, ok, e := Cat(read(t, c.x), read(t, c.y), dfa.Grant(1000))
		if got != c.want || ok != c.ok || e != api.OK {
			t.Errorf("%s and %s: %v, %v, %d, not %v", c.x, c.y, got, ok, e, c.want)
		}
	}
}

func TestIterByHand(t *testing.T) {
	for _, c := range []struct {
		x    string
		want Two
		ok   bool
	}{
		// The text of no bytes is one of it: no Two is told, and true.
		{"()", Two{}, true},
		{"a*", Two{}, true},
		{"a?", Two{}, true},
		{".*", Two{}, true},
		{"(a|b)*&(b|c)*", Two{}, true},
		{"[]", Two{}, false},
		{"a", Two{}, false},
		{".", Two{}, false},
		{"a|b", Two{}, false},
		{"a|ab", Two{}, false},
		{"a|ba", Two{}, false},
		{"a|aa", Two{"aa", 1, 2}, true},
		{"aa*", Two{"aa", 1, 2}, true},
		{"aa|aaa", Two{"aaaaa", 2, 3}, true},
		{"a|ab|ba", Two{"aba", 1, 2}, true},
		{"a|ab|b", Two{"ab", 1, 2}, true},
		{"ab|abba|ba", Two{"abba", 2, 4}, true},
		{"a*b", Two{}, false},
		{"a*ba*", Two{"bab", 1, 2}, true},
		{"0|01|11", Two{}, false},
		{"0|01|10", Two{"010", 1, 2}, true},
		{"011|01110|1110|10011|1", Two{"111011", 1, 4}, true},
		// 011 and 10011; 01110 and 011
		{"011|01110|1110|10011", Two{"01110011", 3, 5}, true},
		{"011|1110|10011", Two{}, false},
		{`[\x00-\xff]\xff?`, Two{"\x00\xff", 1, 2}, true},
		{`[ac]b?|[bc]d`, Two{}, false},
		{`[ac]b?|bd|d`, Two{"abd", 1, 2}, true},
		{`[ac]c?`, Two{"ac", 1, 2}, true},
	} {
		got, ok, e := Iter(read(t, c.x), dfa.Grant(1000))
		if got != c.want || ok != c.ok || e != api.OK {
			t.Errorf("%s: %v, %v, %d, not %v", c.x, got, ok, e, c.want)
		}
		if x := read(t, c.x); ok && !x.Null() && !right(x, re.Many(x), got) {
			t.Errorf("%s: %v can't be split so", c.x, got)
		}
	}
}

// Against P8.1's words, as they stand there, at all short texts.
func TestCat(t *testing.T) {
	list := texts(headBytes, 4)
	met := map[int]int{}
	for _, p := range pairs(1500) {
		x, y := p[0], p[1]
		got, ok, e := Cat(x, y, dfa.Grant(100000))
		if e != api.OK || !ok && got != (Two{}) || ok && !right(x, y, got) {
			t.Fatalf("%s and %s: %v, %v, %d", text.Of(x), text.Of(y), got, ok, e)
		}
		for _, s := range list {
			if ok && len(s) >= len(got.Text) {
				break
			}
			if at := splits(x, y, s); len(at) > 1 {
				t.Fatalf("%s and %s: %q can be split at %v, but %v", text.Of(x), text.Of(y), s, at, got)
			}
		}
		if ok && len(got.Text) < 5 {
			if at := splits(x, y, got.Text); len(at) < 2 {
				t.Fatalf("%s and %s: %q can be split at %v", text.Of(x), text.Of(y), got.Text, at)
			}
		}
		if ok {
			met[len(got.Text)]++
		} else {
			met[0]++
		}
	}
	for n, least := range map[int]int{0: 500, 1: 40, 2: 50, 3: 50, 4: 50, 5: 20} {
		if met[n] < least {
			t.Error("few samples:", met)
		}
	}
}

// All texts, however long they are; and the least one of them is told.
func TestCatIsWhole(t *testing.T) {
	seen, long := 0, 0
	for _, p := range pairs(4000) {
		x, y := p[0], p[1]
		want, found, enough := leastTwo(build(t, x), build(t, y), headBytes, 3000)
		if !enough {
			continue
		}
		seen++
		got, ok, e := Cat(x, y, dfa.Grant(100000))
		if e != api.OK || ok != found || got.Text != want || ok && !right(x, y, got) {
			t.Fatalf("%s and %s: %v, %v, %d, not %q, %v", text.Of(x), text.Of(y), got, ok, e, want, found)
		}
		if len(want) > 4 {
			long++
		}
	}
	if seen < 3900 || long < 40 {
		t.Error("few samples:", seen, long)
	}
}

func TestIter(t *testing.T) {
	list := texts("abc", 7)
	met := map[int]int{}
	for _, x := range singles(600) {
		b := dfa.Grant(100000)
		got, ok, e := Iter(x, b)
		if x.Null() {
			if got != (Two{}) || !ok || e != api.OK || b.Used() != 0 {
				t.Fatalf("%s: %v, %v, %d", text.Of(x), got, ok, e)
			}
			met[-1]++
			continue
		}
		c := dfa.Grant(100000)
		two, can, err := Cat(x, re.Many(x), c)
		if got != two || ok != can || e != api.OK || err != api.OK || b.Used() != c.Used() {
			t.Fatalf("%s: %v, %v, %d, not %v", text.Of(x), got, ok, e, two)
		}
		for _, s := range list {
			if ok && len(s) >= len(got.Text) {
				break
			}
			if n := rows(x, s); n > 1 {
				t.Fatalf("%s: %q in %d ways, but %v", text.Of(x), s, n, got)
			}
		}
		if ok && len(got.Text) < 15 && (rows(x, got.Text) < 2 || !right(x, re.Many(x), got)) {
			t.Fatalf("%s: %v", text.Of(x), got)
		}
		met[len(got.Text)]++
	}
	for n, least := range map[int]int{-1: 20, 0: 50, 2: 50, 3: 30, 4: 10, 5: 5} {
		if met[n] < least {
			t.Error("few samples:", met)
		}
	}
}

// Each state is taken: with any fewer than were used there is an error, and nothing beside it; with just as many, and
// with more, the answer is the same.
func TestBudget(t *testing.T) {
	for i, p := range pairs(400) {
		x, y := p[0], p[1]
		m, n := build(t, x).Len(), build(t, y).Len()
		b := dfa.Grant(m + n + m + 2*m*n + n*n)
		got, ok, e := Cat(x, y, b)
		if e != api.OK || b.Used() < m+n {
			t.Fatalf("%s and %s: %d, %d used", text.Of(x), text.Of(y), e, b.Used())
		}
		if ok && b.Used() < m+n+len(got.Text) {
			t.Fatalf("%s and %s: %d used, of %d and %d states, %v", text.Of(x), text.Of(y), b.Used(), m, n, got)
		}
		for k := range b.Used() {
			if k > 20 && k%7 != i%7 && k != b.Used()-1 {
				continue
			}
			few := dfa.Grant(k)
			if w, can, e := Cat(x, y, few); w != (Two{}) || can || e != api.ErrBudget || few.Used() != k {
				t.Fatalf("%s and %s by %d: %v, %v, %d, %d used", text.Of(x), text.Of(y), k, w, can, e, few.Used())
			}
			if few.Take(1) != api.ErrBudget {
				t.Fatal("some are left")
			}
		}
		for _, k := range []int{b.Used(), b.Used() + 1, 1000000} {
			c := dfa.Grant(k)
			if w, can, e := Cat(x, y, c); w != got || can != ok || e != api.OK || c.Used() != b.Used() {
				t.Fatalf("%s and %s by %d: %v, %v, %d, %d used", text.Of(x), text.Of(y), k, w, can, e, c.Used())
			}
		}
	}
}

// The states beside those of the expressions are taken, too, and of a budget of which others have taken.
func TestBudgetByHand(t *testing.T) {
	a := read(t, "a*")
	for k := range 6 {
		b := dfa.Grant(10)
		b.Take(10 - k)
		if w, ok, e := Cat(a, a, b); w != (Two{}) || ok || e != api.ErrBudget || b.Used() != 10 {
			t.Error(k, w, ok, e, b.Used())
		}
	}
	b := dfa.Grant(10)
	b.Take(4)
	if w, ok, e := Cat(a, a, b); w != (Two{"a", 0, 1}) || !ok || e != api.OK || b.Used() != 10 {
		t.Error(w, ok, e, b.Used())
	}
	// Just as many as the two have, but none beside them.
	if w, ok, e := Cat(a, a, dfa.Grant(4)); w != (Two{}) || ok || e != api.ErrBudget {
		t.Error(w, ok, e)
	}
	if w, ok, e := Iter(read(t, "a|aa"), dfa.Grant(8)); w != (Two{}) || ok || e != api.ErrBudget {
		t.Error(w, ok, e)
	}
}

func TestWrongBudgets(t *testing.T) {
	a, none := read(t, "aa*"), read(t, "a*")
	spent := dfa.Grant(100)
	spent.Take(101)
	for _, b := range []*dfa.Budget{nil, new(dfa.Budget), dfa.Grant(0), dfa.Grant(-1), dfa.Grant(1), spent} {
		for _, x := range []*re.Re{a, nil, re.Empty()} {
			if w, ok, e := Cat(x, a, b); w != (Two{}) || ok || e != api.ErrBudget {
				t.Error("Cat", w, ok, e)
			}
		}
		if w, ok, e := Iter(a, b); w != (Two{}) || ok || e != api.ErrBudget {
			t.Error("Iter", w, ok, e)
		}
		// Nothing is asked of a budget there.
		used := b.Used()
		if w, ok, e := Iter(none, b); w != (Two{}) || !ok || e != api.OK || b.Used() != used {
			t.Error("Iter of Null", w, ok, e)
		}
	}
}

func TestNil(t *testing.T) {
	a := read(t, "a*")
	for _, p := range [][2]*re.Re{{nil, nil}, {a, nil}, {nil, a}, {re.Nothing(), a}, {a, re.Nothing()}} {
		if w, ok, e := Cat(p[0], p[1], dfa.Grant(100)); w != (Two{}) || ok || e != api.OK {
			t.Error("Cat", w, ok, e)
		}
	}
	if w, ok, e := Iter(nil, dfa.Grant(100)); w != (Two{}) || ok || e != api.OK {
		t.Error("Iter", w, ok, e)
	}
}

// One that is too great for Build, whichever of the two it is, and whatever the other one is.
func TestTooGreat(t *testing.T) {
	a, big := read(t, "a"), great(20*api.MaxNodes+1)
	for _, p := range [][2]*re.Re{{big, a}, {a, big}, {big, big}, {nil, big}, {big, nil}} {
		if w, ok, e := Cat(p[0], p[1], dfa.Grant(100000)); w != (Two{}) || ok || e != api.ErrBudget {
			t.Error("Cat", w, ok, e)
		}
	}
	if w, ok, e := Iter(big, dfa.Grant(100000)); w != (Two{}) || ok || e != api.ErrBudget {
		t.Error("Iter", w, ok, e)
	}
	if w, ok, e := Cat(great(20*api.MaxNodes), a, dfa.Grant(100000)); w != (Two{}) || ok || e != api.OK {
		t.Error("as great as may be", w, ok, e)
	}
}

func TestLong(t *testing.T) {
	x, y := re.Many(times("a", 31)), re.Many(times("a", 37))
	w, ok, e := Cat(x, y, dfa.Grant(10000))
	if w != (Two{strings.Repeat("a", 31*37), 0, 31 * 37}) || !ok || e != api.OK {
		t.Error(len(w.Text), w.I, w.J, ok, e)
	}
	x, y = re.Then(re.Word("x"), re.Many(times("ab", 20))), re.Then(re.Many(times("ab", 21)), re.Word("abay"))
	w, ok, e = Cat(x, y, dfa.Grant(10000))
	if w != (Two{"x" + strings.Repeat("ab", 420) + "abay", 1, 841}) || !ok || e != api.OK {
		t.Error(len(w.Text), w.I, w.J, ok, e)
	}
	// a of which n are as one, or n+1: n(n+1) of them are in two ways; n+1 ahead is as good as n.
	w, ok, e = Iter(re.Any(times("a", 20), times("a", 21)), dfa.Grant(10000))
	if w != (Two{strings.Repeat("a", 41), 20, 21}) || !ok || e != api.OK {
		t.Error(len(w.Text), w.I, w.J, ok, e)
	}
}

// Many states, and all bytes told apart.
func TestMany(t *testing.T) {
	far := read(t, "(a|b)*a"+strings.Repeat("(a|b)", 7))
	w, ok, e := Cat(far, far, dfa.Grant(300000))
	if !ok || e != api.OK || len(w.Text) != 17 || !right(far, far, w) {
		t.Error(w, ok, e)
	}
	if w, ok, e := Cat(far, read(t, "c.*"), dfa.Grant(300000)); w != (Two{}) || ok || e != api.OK {
		t.Error(w, ok, e)
	}
	all := make([]byte, 256)
	for i := range all {
		all[i] = byte(255 - i)
	}
	line := string(all)
	x := re.Then(re.Any(re.Empty(), re.Word(line)), re.Many(re.Word("ab")))
	if w, ok, e := Cat(x, x, dfa.Grant(300000)); w != (Two{"ab", 0, 2}) || !ok || e != api.OK {
		t.Error(w, ok, e)
	}
	x = re.Any(re.Empty(), re.Word(line))
	if w, ok, e := Cat(x, x, dfa.Grant(300000)); w != (Two{line, 0, 256}) || !ok || e != api.OK {
		t.Error(w, ok, e)
	}
	x = re.Then(re.Many(re.Word(line)), re.Word("\n"))
	if w, ok, e := Iter(x, dfa.Grant(300000)); w != (Two{}) || ok || e != api.OK {
		t.Error(w, ok, e)
	}
}

// Of several texts of one length the least is told, though several places lie at one text.
func TestLeast(t *testing.T) {
	for _, c := range []struct {
		x, y string
		want string
	}{
		{"c?|b?|a?", "a?|b?|c?", "a"},
		{"[^a]?", ".?", "\x00"},
		{"z?|yx?", "z?|xy?|w", "z"},
		{"(zz)?|(yy)?", "(yy)?|(zz)?", "yy"},
		{"b?|ac", "b?d|cd|d", "bd"},
		{"b?|ac?", "b?d|cd|d", "bd"},
		{"b?|a|abc", "bd|cd|d|bcd", "bd"},
		{"(a|b)*", "ba|ab|aba|bab", "aba"},
	} {
		w, ok, e := Cat(read(t, c.x), read(t, c.y), dfa.Grant(1000))
		if w.Text != c.want || !ok || e != api.OK {
			t.Errorf("%s and %s: %v, %v, %d, not %q", c.x, c.y, w, ok, e, c.want)
		}
	}
}

// What is handed in is as it was; several may ask of the same expressions, and of one budget.
func TestNothingTurns(t *testing.T) {
	list := pairs(60)
	var all sync.WaitGroup
	shared := dfa.Grant(1 << 30)
	for range 4 {
		all.Go(func() {
			for _, p := range list {
				keys := []string{p[0].Key(), p[1].Key()}
				w, ok, _ := Cat(p[0], p[1], shared)
				again, can, _ := Cat(p[0], p[1], dfa.Grant(100000))
				if w != again || ok != can {
					t.Error(w, again)
				}
				if now := []string{p[0].Key(), p[1].Key()}; !reflect.DeepEqual(keys, now) {
					t.Error("turned")
				}
			}
		})
	}
	all.Wait()
}

func TestHeads(t *testing.T) {
	for _, c := range []struct{ x, y, want string }{
		{"[]", "[]", "\x00"},
		{"[ac]", "[bc]", "\x00abc"},
		{"a", "a", "\x00a"},
		{"[a-f]", "[d-k]", "\x00adg"},
		{`\x00`, `\xff`, "\x00\x01\xff"},
		{"abc", "[]", "\x00abc"},
		{"[]", "cba", "\x00abc"},
	} {
		if got := string(heads(build(t, read(t, c.x)), build(t, read(t, c.y)))); got != c.want {
			t.Errorf("%s and %s: %q, not %q", c.x, c.y, got, c.want)
		}
	}
	for _, p := range pairs(300) {
		x, y := build(t, p[0]), build(t, p[1])
		list := heads(x, y)
		for b := range 256 {
			n := 0
			for _, h := range list {
				if alike(x, byte(b), h) && alike(y, byte(b), h) {
					n++
					if h > byte(b) {
						t.Fatalf("%s and %s: %d stands for %d", text.Of(p[0]), text.Of(p[1]), h, b)
					}
				}
			}
			if n != 1 {
				t.Fatalf("%s and %s: %d is like %d of %q", text.Of(p[0]), text.Of(p[1]), b, n, list)
			}
		}
	}
}

// alike tells whether two bytes lead to the same from all states.
func alike(d *dfa.Dfa, a, b byte) bool {
	for q := range d.Len() {
		if d.Step(q, a) != d.Step(q, b) {
			return false
		}
	}
	return true
}

// The model is held against the words, too.
func TestModel(t *testing.T) {
	list := texts(headBytes, 3)
	for _, p := range pairs(200) {
		want, found, _ := leastTwo(build(t, p[0]), build(t, p[1]), headBytes, 3000)
		for _, s := range list {
			if found && s == want {
				break
			}
			if len(splits(p[0], p[1], s)) > 1 {
				t.Fatalf("%q, not %q", want, s)
			}
		}
		if found && !deriv.Match(re.Then(p[0], p[1]), want) {
			t.Fatalf("%q", want)
		}
	}
}
