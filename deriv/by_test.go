package deriv

import (
	"reflect"
	"strings"
	"sync"
	"testing"

	"periscope/re"
	"periscope/set"
	"periscope/text"
)

func TestByExample(t *testing.T) {
	if d := By(read(t, "(ab)*"), 'a'); text.Of(d) != "b(ab)*" {
		t.Error(text.Of(d))
	}
}

// What By makes by hand, rule by rule. What other rules could make simpler stays as it is.
func TestByHand(t *testing.T) {
	for _, c := range []struct {
		r    string
		b    byte
		want string
	}{
		{"[]", 'a', "[]"},
		{"()", 'a', "[]"},
		{"a", 'a', "()"},
		{"a", 'b', "[]"},
		{".", 0, "()"},
		{".", 255, "()"},
		{"[^a]", 'a', "[]"},
		{"[^a]", 'b', "()"},
		{"[b-d]", 'a', "[]"},
		{"[b-d]", 'd', "()"},
		{`\x00\xff`, 0, `\xff`},
		{`\xff\x00`, 0xff, `\x00`},
		{"abc", 'a', "bc"},
		{"abc", 'b', "[]"},
		{"aaa", 'a', "aa"},
		{"(ab)*", 'b', "[]"},
		{"a*", 'a', "a*"},
		{"a*b", 'a', "a*b"},
		{"a*b", 'b', "()"},
		{"a*b", 'c', "[]"},
		{"a*a", 'a', "a*a|()"},
		{"a*a*", 'a', "a*a*|a*"},
		{"a*a*a*", 'a', "a*a*a*|a*a*|a*"},
		{"a?b?c", 'a', "b?c"},
		{"a?b?c", 'b', "c"},
		{"a?b?c", 'c', "()"},
		{"a?b?c?", 'b', "c?"},
		{"a?b?c?", 'c', "()"},
		{"a?a?ad", 'a', "a?ad|ad|d"},
		{"a?ba?", 'a', "ba?"},
		{"a?(a|b?)c", 'a', "(a|b?)c|c"},
		{"(a|ab)(c|bcd)", 'a', "(b|())(c|bcd)"},
		{"(a|b)*abb", 'a', "[ab]*abb|bb"},
		{"(a|b)*abb", 'b', "[ab]*abb"},
		{"(a*b*)*", 'a', "a*b*(a*b*)*"},
		{"(a*b*)*", 'b', "b*(a*b*)*"},
		{"(a*b*)*c", 'b', "b*(a*b*)*c"},
		{"((ab)*c)*", 'a', "b(ab)*c((ab)*c)*"},
		{"((ab)*c)*", 'c', "((ab)*c)*"},
		{"ab|ac", 'a', "[b-c]"},
		{"ab|ac|a", 'a', "[b-c]|()"},
		{"ab|b|cd", 'a', "b"},
		{"ab|b|cd", 'd', "[]"},
		{"ab&a.", 'a', "b"},
		{"ab&ac", 'a', "[]"},
		{"ab&a.*", 'a', "b&.*"},
		{".*&a", 'a', ".*&()"},
		{".*&a", 'x', "[]"},
		{"ab-ac", 'a', "b"},
		{"ab-a[bc]", 'a', "[]"},
		{"ab-ab?", 'a', "b-b?"},
		{"ab-ba", 'a', "b"},
		{"ab-ba", 'b', "[]"},
		{"a*-a", 'a', "a*-()"},
		{"a*-(a|b)*", 'a', "a*-[ab]*"},
		{".*-abc", 'a', ".*-bc"},
		{".*-abc", 'b', ".*"},
		{"(a*-a)b", 'a', "(a*-())b"},
		{"(a*-())b", 'b', "[]"},
		{"(a-()|b*)c", 'c', "()"},
		{"((a|b)*-b)c", 'c', "()"},
	} {
		r := read(t, c.r)
		if d := By(r, c.b); !d.Same(read(t, c.want)) {
			t.Errorf("By of %s and %q: %s, not %s", c.r, c.b, text.Of(d), c.want)
		}
	}
}

func TestByRules(t *testing.T) {
	_, kept := samples(6000)
	met := map[re.Op]int{}
	for _, r := range kept {
		for i := range len(someBytes) {
			d, want := By(r, someBytes[i]), byRules(r, someBytes[i])
			if d == nil || !d.Same(want) || d.Key() != want.Key() {
				t.Fatalf("By of %s and %q: %s, not %s", text.Of(r), someBytes[i], text.Of(d), text.Of(want))
			}
			met[d.Op]++
		}
	}
	for op := re.None; op <= re.Minus; op++ {
		if op != re.Class && met[op] < 50 {
			t.Errorf("only %d of Op %d came", met[op], op)
		}
	}
}

// By again and again, since what comes of By is of other forms than what the samples are.
func TestByRulesOnAndOn(t *testing.T) {
	_, kept := samples(1500)
	d := draw(11)
	for _, r := range kept {
		for range 6 {
			b := someBytes[d.below(len(someBytes))]
			next, want := By(r, b), byRules(r, b)
			if !next.Same(want) {
				t.Fatalf("By of %s and %q: %s, not %s", text.Of(r), b, text.Of(next), text.Of(want))
			}
			if next.Size() > 2000 || next.Op == re.None {
				break
			}
			r = next
		}
	}
}

func TestByTexts(t *testing.T) {
	raw, kept := samples(1200)
	yes := 0
	for i, r := range kept {
		for j := range len(someBytes) {
			d := By(r, someBytes[j])
			for _, s := range words() {
				want := has(raw[i], someBytes[j:j+1]+s)
				if has(d, s) != want {
					t.Fatalf("By of %s and %q is %s, of which %q is a text: %v", text.Of(r), someBytes[j], text.Of(d), s, !want)
				}
				if want {
					yes++
				}
			}
		}
	}
	if yes < 10000 {
		t.Error("few texts:", yes)
	}
}

func TestByOfNil(t *testing.T) {
	for b := range 256 {
		if d := By(nil, byte(b)); d == nil || !d.Same(re.Nothing()) {
			t.Error(b, text.Of(d))
		}
	}
}

// What was written out by hand, or copied, is By of the settled form.
func TestByOfRaw(t *testing.T) {
	raw, kept := samples(1500)
	for i, r := range raw {
		for j := range len(someBytes) {
			if d := By(r, someBytes[j]); !d.Same(By(kept[i], someBytes[j])) {
				t.Fatalf("By of %s, written by hand: %s", text.Of(kept[i]), text.Of(d))
			}
		}
	}
	r := read(t, "(a?b)*c")
	c := *r
	if !By(&c, 'a').Same(By(r, 'a')) {
		t.Error("By of a copy")
	}
}

func TestOddOnesDoNoHarm(t *testing.T) {
	for _, r := range odd() {
		if d := By(r, 'a'); d == nil || !d.With(d.Kids...).Same(d) {
			t.Errorf("By of %v: %v", r, d)
		}
		if len(Parts(r)) == 0 || len(Sets(r)) > 2 {
			t.Errorf("of %v: %v, %v", r, Parts(r), Sets(r))
		}
		// Of no kids And is all texts; the others have texts of a alone, if any.
		if Match(r, "") != r.Null() || Match(r, "b") != (r.Op == re.And) {
			t.Errorf("Match of %v", r)
		}
	}
}

// Calls answer the same each time, and leave what they are given as it is, even several at a time.
func TestNothingTurns(t *testing.T) {
	_, kept := samples(200)
	_, again := samples(200)
	var wait sync.WaitGroup
	for range 4 {
		wait.Go(func() {
			for _, r := range kept {
				for i := range len(someBytes) {
					By(r, someBytes[i])
				}
				Match(r, "abacab")
				Parts(r)
				Sets(r)
			}
		})
	}
	wait.Wait()
	for i := range kept {
		if !reflect.DeepEqual(kept[i], again[i]) {
			t.Error("a call turned", text.Of(again[i]))
		}
	}
}

// A list of kids may have room behind its end: nothing is written there.
func TestNoRoomIsTaken(t *testing.T) {
	kid := re.Then(re.Word("a"), re.Empty(), re.Word("b"), re.Empty(), re.Empty())
	kid.Kids = append(make([]*re.Re, 0, 8), kid.Kids...)
	r := re.Many(kid)
	x, y := By(r, 'a'), By(re.Then(r, re.Word("cd")), 'a')
	if text.Of(x) != "b(ab)*" || text.Of(y) != "b(ab)*cd" || !Match(r, "abab") {
		t.Error(text.Of(x), text.Of(y))
	}
	for i, k := range kid.Kids[:cap(kid.Kids)] {
		if (k != nil) != (i < 2) {
			t.Error("a call wrote behind a list of kids, at", i)
		}
	}
}

// What By answers may be asked on in several ways: they don't come in each other's way.
func TestAnswersAreApart(t *testing.T) {
	r := read(t, "(a(b|c)d|ab*e)*x")
	d := By(r, 'a')
	key := d.Key()
	list := []*re.Re{By(d, 'b'), By(d, 'c'), By(d, 'e'), By(d, 'b')}
	keys := []string{}
	for _, x := range list {
		keys = append(keys, x.Key())
	}
	for i := range len("bcde") {
		for _, x := range list {
			By(x, "bcde"[i])
		}
	}
	for i, x := range list {
		if x.Key() != keys[i] {
			t.Error("a later call turned an answer")
		}
	}
	if d.Key() != key || keys[0] != keys[3] || keys[0] == keys[1] {
		t.Error("other answers")
	}
}

func TestByOfDeep(t *testing.T) {
	const n = 1 << 15
	a, b := re.Word("a"), re.Word("b")
	star, minus, or := a, a, a
	for range n {
		star = re.Many(re.Then(star, b))
	}
	for range n / 16 {
		minus = re.But(re.Many(minus), b)
		or = re.Then(re.Any(or, re.Empty()), b)
	}
	// The a of the innermost star, and behind it each b and each star that is around it.
	d := By(star, 'a')
	if d.Op != re.Cat || len(d.Kids) != 2*n || !d.Kids[0].Same(b) || d.Kids[2*n-1] != star || d.Kids[2*n-2].Key() != b.Key() {
		t.Error("a deep Star")
	}
	if d := By(star, 'c'); d.Op != re.None {
		t.Error("a deep Star, another byte")
	}
	// Nothing is left of what is taken away, so that it is a row of stars.
	if d := By(minus, 'a'); d.Op != re.Cat || len(d.Kids) != n/16 || By(minus, 'b').Op != re.None {
		t.Error("a deep Minus")
	}
	if d := By(or, 'a'); !Match(d, strings.Repeat("b", n/16)) || Match(d, strings.Repeat("b", n/16-1)) {
		t.Error("a deep Or")
	}
}

func TestByOfGreat(t *testing.T) {
	w := strings.Repeat("abc\x00\xff", 13107)
	if d := By(re.Word(w), 'a'); !d.Same(re.Word(w[1:])) {
		t.Error("a long word")
	}
	var kids, ends []*re.Re
	for range 150 {
		kids = append(kids, read(t, "a?"))
	}
	row := re.Then(kids...)
	for i := range kids {
		ends = append(ends, re.Then(kids[i+1:]...))
	}
	if d := By(row, 'a'); !d.Same(re.Any(ends...)) || len(d.Kids) != 150 {
		t.Error("a long row of what may be nothing", len(d.Kids))
	}
	var all []*re.Re
	for b := range 256 {
		all = append(all, re.Then(re.One(set.Of(byte(b))), re.Many(re.One(set.Of(byte(b))))))
	}
	r := re.Any(all...)
	for b := range 256 {
		if d := By(r, byte(b)); !d.Same(re.Many(re.One(set.Of(byte(b))))) {
			t.Error("of all bytes", b, text.Of(d))
		}
	}
}
