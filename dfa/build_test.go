package dfa

import (
	"reflect"
	"strings"
	"sync"
	"testing"

	"periscope/api"
	"periscope/deriv"
	"periscope/re"
	"periscope/set"
	"periscope/text"
)

func TestBuildExample(t *testing.T) {
	b := Grant(10)
	d, e := Build(read(t, "(ab)*"), b)
	if e != api.OK || d.Len() != 3 || b.Used() != 3 || string(d.Heads()) != "\x00ab" {
		t.Fatal(e, d.Len(), b.Used(), d.Heads())
	}
	// (ab)*, then Nothing by the first head, then b(ab)* by a.
	for _, c := range []struct {
		q    int
		b    byte
		want int
	}{
		{0, 0, 1}, {0, 'a', 2}, {0, 'b', 1}, {0, 255, 1},
		{1, 0, 1}, {1, 'a', 1}, {1, 'b', 1}, {1, 'c', 1},
		{2, 0, 1}, {2, 'a', 1}, {2, 'b', 0}, {2, '`', 1},
	} {
		if to := d.Step(c.q, c.b); to != c.want {
			t.Errorf("%q from %d: %d, not %d", c.b, c.q, to, c.want)
		}
	}
}

func TestHeadsByHand(t *testing.T) {
	for _, c := range []struct{ r, want string }{
		{"[]", "\x00"},
		{"()", "\x00"},
		{".*", "\x00"},
		{"a", "\x00a"},
		{`\x00`, "\x00\x01"},
		{`\xff`, "\x00\xff"},
		{"[^a]", "\x00a"},
		{"[a-f]", "\x00a"},
		{"[a-f][d-z]", "\x00adg"},
		{"abc", "\x00abc"},
		{"cba", "\x00abc"},
		{`[\x00-b][a-z]`, "\x00ac{"},
		{"xy-(z&yx)", "\x00xyz"},
		{"(.*&b)*|[^b]", "\x00b"},
	} {
		if got := string(build(t, read(t, c.r)).Heads()); got != c.want {
			t.Errorf("Heads of %s: %q, not %q", c.r, got, c.want)
		}
	}
	// Of all sets of the expression itself, whether a byte can ever lie there or not.
	if got := string(build(t, re.Both(re.Word("ax"), re.Word("by"))).Heads()); got != "\x00abxy" {
		t.Errorf("%q", got)
	}
}

func TestLenByHand(t *testing.T) {
	for _, c := range []struct {
		r    string
		want int
	}{
		{"[]", 1}, {"()", 2}, {".*", 1}, {"a*", 2}, {"a", 3}, {".", 3}, {"abc", 5},
		// What is not the same, though its texts are, is another state: a*a*, and a*a*|a*.
		{"a*a*", 3},
		{"(aa)*|aa(aa)*", 4},
		{"(a|b)*abb", 5},
		{".*-abc", 5},
	} {
		if got := build(t, read(t, c.r)).Len(); got != c.want {
			t.Errorf("%s has %d states, not %d", c.r, got, c.want)
		}
	}
}

func TestBuild(t *testing.T) {
	seen, big := 0, 0
	for _, r := range samples(2500) {
		m := modelOf(r, 60)
		if m == nil {
			continue
		}
		seen++
		b := Grant(60)
		d, e := Build(r, b)
		if e != api.OK || d.Len() != len(m.states) || b.Used() != len(m.states) {
			t.Fatalf("%s: %d, %d states, %d used, not %d", text.Of(r), e, d.Len(), b.Used(), len(m.states))
		}
		if string(d.Heads()) != string(m.heads) {
			t.Fatalf("Heads of %s: %q, not %q", text.Of(r), d.Heads(), m.heads)
		}
		for q, x := range m.states {
			if d.Yes(q) != x.Null() {
				t.Fatalf("%s, state %d: Yes is %v", text.Of(r), q, d.Yes(q))
			}
			for _, c := range []byte("abcdABC\x00\x01\x7f\x80\xfe\xff") {
				if to, want := d.Step(q, c), m.number(deriv.By(x, c)); to != want {
					t.Fatalf("%s, %q from %d: %d, not %d", text.Of(r), c, q, to, want)
				}
			}
		}
		if d.Len() > 8 {
			big++
		}
	}
	if seen < 2400 || big < 200 {
		t.Error("few samples:", seen, big)
	}
}

// All bytes, not some of them only.
func TestStepOfAllBytes(t *testing.T) {
	for _, s := range []string{"[b-d]*[c-y]x|[^a-c]", `(\x00|\xff)*[\x7f-\x81]`, "(.*a.*)&(.*b.*)-(.*[^ab].*)", "[]", "."} {
		r := read(t, s)
		d, m := build(t, r), modelOf(r, 1000)
		for q, x := range m.states {
			for c := range 256 {
				if to, want := d.Step(q, byte(c)), m.number(deriv.By(x, byte(c))); to != want {
					t.Fatalf("%s, %d from %d: %d, not %d", s, c, q, to, want)
				}
			}
		}
	}
}

// As many as there are states are enough, no fewer: each is taken as it is found, till one can't be.
func TestBuildTakes(t *testing.T) {
	for _, s := range []string{"[]", "()", "a", "(ab)*", "(a|b)*a(a|b)(a|b)", ".*abc.*-.*cba.*", "a*a*a*"} {
		r := read(t, s)
		n := build(t, r).Len()
		for k := range n {
			b := Grant(k)
			if d, e := Build(r, b); d != nil || e != api.ErrBudget || b.Used() != k || b.Take(1) != api.ErrBudget {
				t.Errorf("%s by %d: %d, Used %d", s, k, e, b.Used())
			}
		}
		b := Grant(n)
		if d, e := Build(r, b); e != api.OK || d.Len() != n || b.Used() != n {
			t.Errorf("%s by %d: %d, Used %d", s, n, e, b.Used())
		}
	}
}

func TestBuildsOfOneBudget(t *testing.T) {
	r, b := read(t, "(ab)*"), Grant(11)
	for i := range 3 {
		if d, e := Build(r, b); e != api.OK || d.Len() != 3 || b.Used() != 3*(i+1) {
			t.Fatal(i, e, b.Used())
		}
	}
	if d, e := Build(r, b); d != nil || e != api.ErrBudget || b.Used() != 11 {
		t.Error("a fourth one", e, b.Used())
	}
	for _, b := range []*Budget{nil, Grant(0), Grant(-1), new(Budget)} {
		if d, e := Build(r, b); d != nil || e != api.ErrBudget || b.Used() != 0 {
			t.Error("no budget", e)
		}
	}
}

func TestBuildOfNil(t *testing.T) {
	b := Grant(1)
	d, e := Build(nil, b)
	if e != api.OK || d.Len() != 1 || b.Used() != 1 || string(d.Heads()) != "\x00" {
		t.Fatal(e, d.Len(), b.Used())
	}
	if d.Step(0, 'a') != 0 || d.Yes(0) || d.Live(0) || d.Match("") || d.Match("a") {
		t.Error("Nothing has a text")
	}
	if d, e := Build(nil, nil); d != nil || e != api.ErrBudget {
		t.Error("nil of nil", e)
	}
}

// A Size of 20 times MaxNodes may be, one more may not; that state is found, so it is taken.
func TestBuildOfGreat(t *testing.T) {
	const most = 20 * api.MaxNodes
	r := great(most)
	if r.Size() != most {
		t.Fatal(r.Size())
	}
	b := Grant(100)
	if d, e := Build(r, b); e != api.OK || d.Len() != 2 || b.Used() != 2 {
		t.Error("the greatest one:", e, b.Used())
	}
	b = Grant(100)
	if d, e := Build(great(most+1), b); d != nil || e != api.ErrBudget || b.Used() != 1 {
		t.Error("one that is too great:", e, b.Used())
	}
	// Behind a byte, and behind another one, is what is too great.
	b = Grant(100)
	if d, e := Build(re.Then(re.Word("ab"), great(most-3)), b); e != api.OK || d.Len() != 4 || b.Used() != 4 {
		t.Error("the greatest one, behind two bytes:", e, b.Used())
	}
}

// An expression that isn't too great itself, but what stands behind a byte of it is.
func TestBuildGrows(t *testing.T) {
	star := re.Many(re.Word("a"))
	var met [2]int
	for n := 130; n <= 150; n++ {
		var kids []*re.Re
		for range n {
			kids = append(kids, star)
		}
		row, b := re.Then(kids...), Grant(100)
		d, e := Build(row, b)
		if deriv.By(row, 'a').Size() > 20*api.MaxNodes {
			met[1]++
			// The row, Nothing, and the one that is too great.
			if d != nil || e != api.ErrBudget || b.Used() != 3 {
				t.Error(n, e, b.Used())
			}
			continue
		}
		met[0]++
		if e != api.OK || d.Len() != 3 || b.Used() != 3 {
			t.Error(n, e, b.Used())
		}
	}
	if met[0] == 0 || met[1] == 0 {
		t.Error(met)
	}
}

// Parts that are used again and again: such a one is too great to be gone through, and isn't.
func TestBuildOfDoubled(t *testing.T) {
	r := re.Word("a")
	for range 200 {
		r = re.Many(re.Then(r, r))
	}
	b := Grant(5)
	if d, e := Build(r, b); d != nil || e != api.ErrBudget || b.Used() != 1 {
		t.Error(e, b.Used())
	}
}

func TestBuildOfMany(t *testing.T) {
	w := strings.Repeat("abcdefghij", 150)
	d := build(t, re.Word(w))
	if d.Len() != len(w)+2 || !d.Match(w) || d.Match(w[1:]) || d.Match(w+"a") || d.Run(0, w[:700]) != 701 {
		t.Error("a long word", d.Len())
	}
	var kids []*re.Re
	for b := range 256 {
		kids = append(kids, re.Then(re.One(set.Of(byte(b))), re.One(set.Of(byte(255-b)))))
	}
	d = build(t, re.Many(re.Any(kids...)))
	if d.Len() != 258 || len(d.Heads()) != 256 || !d.Match("\x00\xffa\x9e\xff\x00") || d.Match("\x00\x00") {
		t.Error("all bytes", d.Len())
	}
	far := re.Then(read(t, "(a|b)*a"), read(t, "(a|b)(a|b)(a|b)(a|b)(a|b)(a|b)(a|b)(a|b)"))
	if n := build(t, far).Len(); n != 1<<9+1 {
		t.Error("the ninth one from the end", n)
	}
}

// What was written out by hand, or copied, has the states of the settled form.
func TestBuildOfRaw(t *testing.T) {
	a := &re.Re{Op: re.Class, Set: set.Of('a')}
	raw := &re.Re{Op: re.Star, Kids: []*re.Re{{Op: re.Cat, Kids: []*re.Re{a, {Op: re.Eps}, {Op: re.Or, Kids: []*re.Re{a, a, nil}}}}}}
	d, want := build(t, raw), build(t, read(t, "(aa)*"))
	if d.Len() != want.Len() || !d.Match("aaaa") || d.Match("aaa") {
		t.Error(d.Len())
	}
	for _, r := range []*re.Re{{Op: re.Star}, {Op: re.Minus}, {Op: re.Cat}, {Op: 99, Kids: []*re.Re{a}}, {Op: -1}} {
		if d := build(t, r); d.Len() > 3 {
			t.Error("an odd one", d.Len())
		}
	}
}

// Calls answer the same each time, and leave what they are given as it is, even several at a time of one budget.
func TestNothingTurns(t *testing.T) {
	list, again := samples(150), samples(150)
	b := Grant(1 << 30)
	var lens [4][]int
	var all sync.WaitGroup
	for i := range lens {
		all.Go(func() {
			for _, r := range list {
				d, _ := Build(r, b)
				lens[i] = append(lens[i], d.Len())
			}
		})
	}
	all.Wait()
	sum := 0
	for i, x := range lens {
		if !reflect.DeepEqual(x, lens[0]) {
			t.Error("other states the", i, "time")
		}
		for _, n := range x {
			sum += n
		}
	}
	if b.Used() != sum {
		t.Error(b.Used(), "used of", sum)
	}
	if !reflect.DeepEqual(list, again) {
		t.Error("Build turned an expression")
	}
}
