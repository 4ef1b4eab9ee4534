package lens

import (
	"strings"
	"testing"

	"periscope/re"
	"periscope/set"
)

func TestQuote(t *testing.T) {
	all := ""
	for b := range 256 {
		s := string([]byte{byte(b)})
		if q := Quote(s); q != quoted(s) {
			t.Errorf("byte %d: %s, not %s", b, q, quoted(s))
		}
		all += s
	}
	for s, want := range map[string]string{"": `""`, "abc": `"abc"`, "a-b": `"a\-b"`, `"`: `"\""`, `\`: `"\\"`, "a b\n\t": `"a\ b\n\t"`, "\r\x7f": `"\x0d\x7f"`,
		"ä": `"\xc3\xa4"`, "/#^": `"\/\#\^"`, all + all: quoted(all + all)} {
		if q := Quote(s); q != want {
			t.Errorf("%q: %s, not %s", s, q, want)
		}
	}
}

func TestStringByHand(t *testing.T) {
	a, n := re.Many(re.Word("a")), &Term{Op: Name, Name: "n1"}
	e := &Term{Op: Re, Re: re.Any(re.Word("ab"), re.Empty())}
	copyA, insB := &Term{Op: Copy, Re: re.Word("a")}, &Term{Op: Ins, Text: "b"}
	for _, c := range []struct {
		x    *Term
		want string
	}{
		{nil, "()"},
		{n, "n1"},
		{e, "/()|ab/"},
		{&Term{Op: Re}, "/[]/"},
		{&Term{Op: Re, Re: re.Word(`/"`)}, `/\/\"/`},
		{&Term{Op: Copy, Re: a}, "copy /a*/"},
		{Of(Copy, n), "copy n1"},
		{Of(Copy, e), "copy /()|ab/"},
		{&Term{Op: Copy, Re: a, Kids: []*Term{n}}, "copy n1"},
		{&Term{Op: Keep, Re: a}, "keep /a*/"},
		{Of(Keep, n), "keep n1"},
		{&Term{Op: Key, Name: "k", Re: a}, "key k /a*/"},
		{&Term{Op: Key, Name: "k", Kids: []*Term{n}}, "key k n1"},
		{&Term{Op: Const, Re: a, Text: "t u", Back: `"`}, `const /a*/ "t\ u" "\""`},
		{&Term{Op: Const, Kids: []*Term{n}, Text: "t"}, `const n1 "t" ""`},
		{&Term{Op: Del, Re: a, Back: "\n"}, `del /a*/ "\n"`},
		{&Term{Op: Del, Kids: []*Term{n}}, `del n1 ""`},
		{&Term{Op: Norm, Re: a, Text: "\xff"}, `norm /a*/ "\xff"`},
		{&Term{Op: Norm, Kids: []*Term{e}, Text: "x"}, `norm /()|ab/ "x"`},
		{&Term{Op: Ins, Text: "()"}, `ins "\(\)"`},
		{&Term{Op: Ins}, `ins ""`},
		{Of(Or, copyA, insB), `copy /a/ | ins "b"`},
		{Of(Cat, copyA, insB), `copy /a/ . ins "b"`},
		{Of(Seq, copyA, insB), `copy /a/ ; ins "b"`},
		{Of(Star, copyA), "copy /a/*"},
		{Of(Star, n), "n1*"},
		{Of(Star, Of(Star, Of(Star, n))), "n1***"},
		{Of(Star, Of(Cat, n, n)), "(n1 . n1)*"},
		{Of(Swap, copyA, insB), `swap(copy /a/, ins "b")`},
		{Of(Left, n, Of(Or, n, n)), "left(n1, n1 | n1)"},
		{Of(Right, Of(Cat, n, n), e), "right(n1 . n1, /()|ab/)"},
		{Of(Inv, Of(Seq, n, n)), "inv(n1 ; n1)"},
		{Of(Dict, Of(Star, n)), "dict(n1*)"},
		{Of(Star, Of(Dict, n)), "dict(n1)*"},
		{Of(Or, Of(Cat, Of(Seq, n, Of(Star, n)), n), n), "n1 ; n1* . n1 | n1"},
		{Of(Star, Of(Seq, n, Of(Cat, n, Of(Or, n, n)))), "(n1 ; (n1 . (n1 | n1)))*"},
	} {
		if s := c.x.String(); s != c.want {
			t.Errorf("%s, not %s", s, c.want)
		}
	}
}

// Each kind of kid in each place: parentheses just where they are needed.
func TestParentheses(t *testing.T) {
	n := &Term{Op: Name, Name: "n"}
	kids := []*Term{Of(Or, n, n), Of(Cat, n, n), Of(Seq, n, n), Of(Star, n), n, Of(Swap, n, n), Of(Inv, n), {Op: Copy, Re: re.Word("a")}, {Op: Ins}}
	texts := []string{"n | n", "n . n", "n ; n", "n*", "n", "swap(n, n)", "inv(n)", "copy /a/", `ins ""`}
	// Which kids stand bare in a place, from which of them on; $ is the kid.
	for _, c := range []struct {
		op   Op
		at   int
		bare int
		want string
	}{
		{Or, 0, 0, "$ | n"}, {Or, 1, 1, "n | $"}, {Cat, 0, 1, "$ . n"}, {Cat, 1, 2, "n . $"}, {Seq, 0, 2, "$ ; n"}, {Seq, 1, 3, "n ; $"}, {Star, 0, 3, "$*"},
		{Swap, 0, 0, "swap($, n)"}, {Swap, 1, 0, "swap(n, $)"}, {Left, 0, 0, "left($, n)"}, {Left, 1, 0, "left(n, $)"},
		{Right, 0, 0, "right($, n)"}, {Right, 1, 0, "right(n, $)"}, {Inv, 0, 0, "inv($)"}, {Dict, 0, 0, "dict($)"},
	} {
		for i, k := range kids {
			list := []*Term{n, n}
			list[c.at] = k
			if c.op == Star || c.op == Inv || c.op == Dict {
				list = list[:1]
			}
			want := texts[i]
			if i < c.bare {
				want = "(" + want + ")"
			}
			want = strings.Replace(c.want, "$", want, 1)
			x := Of(c.op, list...)
			if s := x.String(); s != want {
				t.Errorf("%s, not %s", s, want)
			}
			if m := x.Nest(); m != nested(want) {
				t.Errorf("%s: %d within one another", want, m)
			}
		}
	}
}

func TestStringAndNest(t *testing.T) {
	d := draw(6)
	deepest := 0
	for i := range 4000 {
		x := someTerm(&d, i%8)
		want := written(x)
		if s := x.String(); s != want {
			t.Fatalf("%s, not %s", s, want)
		}
		if n := x.Nest(); n != nested(want) {
			t.Fatalf("%s: %d within one another, not %d", want, n, nested(want))
		}
		deepest = max(deepest, nested(want))
	}
	if deepest < 5 {
		t.Error("nothing deep was met", deepest)
	}
}

func TestNestByHand(t *testing.T) {
	var none *Term
	n := &Term{Op: Name, Name: "n"}
	// Parentheses of an expression and of quoted texts don't count.
	e := re.Many(re.Then(re.Many(re.Word("ab")), re.Any(re.Empty(), re.Word("((")), re.One(set.Of('(', ')'))))
	c := &Term{Op: Const, Re: e, Text: "((", Back: "))("}
	for _, x := range []struct {
		t    *Term
		want int
	}{
		{none, 0}, {n, 0}, {&Term{Op: Re, Re: e}, 0}, {Of(Copy, n), 0}, {Of(Copy, &Term{Op: Re, Re: e}), 0}, {c, 0}, {&Term{Op: Ins, Text: "(("}, 0},
		{Of(Cat, c, c), 0}, {Of(Cat, Of(Cat, n, n), n), 0}, {Of(Cat, n, Of(Cat, n, n)), 1}, {Of(Inv, n), 1}, {Of(Inv, Of(Dict, Of(Inv, c))), 3},
		{Of(Swap, n, Of(Inv, n)), 2}, {Of(Swap, Of(Inv, n), n), 2}, {Of(Star, Of(Swap, Of(Cat, n, n), Of(Star, Of(Cat, n, n)))), 2},
		{Of(Cat, Of(Or, n, n), Of(Cat, n, Of(Or, n, n))), 2}, {Of(Or, Of(Cat, n, Of(Or, n, n)), Of(Cat, n, Of(Or, n, n))), 1}, {Of(Star, Of(Star, n)), 0},
	} {
		if got := x.t.Nest(); got != x.want {
			t.Errorf("%s: %d, not %d", x.t, got, x.want)
		}
	}
}

// Terms with too few kids, and with nil among them, are written, too.
func TestStringOfOddTerms(t *testing.T) {
	n := &Term{Op: Name, Name: "n"}
	for _, op := range pairs {
		for _, x := range []*Term{Of(op), Of(op, n), Of(op, n, nil), Of(op, nil, n), Of(op, nil, nil)} {
			if s := x.String(); !strings.Contains(s, "()") {
				t.Errorf("Op %d: %s", op, s)
			}
		}
	}
	for _, op := range singles {
		for _, x := range []*Term{Of(op), Of(op, nil)} {
			if s := x.String(); !strings.Contains(s, "()") {
				t.Errorf("Op %d: %s", op, s)
			}
		}
	}
	for s, x := range map[string]*Term{"() . n": Of(Cat, nil, n), "n | ()": Of(Or, n, nil), "()*": Of(Star, nil), "swap((), n)": Of(Swap, nil, n)} {
		if x.String() != s {
			t.Errorf("%s, not %s", x, s)
		}
	}
	d := draw(7)
	for i := range 3000 {
		x := wild(&d, i%5)
		if _, n := x.String(), x.Nest(); n < 0 {
			t.Errorf("%s: %d within one another", dump(x), n)
		}
	}
}

func TestDeep(t *testing.T) {
	const deep = 1 << 15
	n := &Term{Op: Name, Name: "n"}
	for _, c := range []struct {
		round            func(*Term) *Term
		size, text, nest int // what comes with each round
	}{
		{func(x *Term) *Term { return Of(Star, x) }, 1, 1, 0},
		{func(x *Term) *Term { return Of(Inv, x) }, 1, 5, 1},
		{func(x *Term) *Term { return Of(Cat, x, n) }, 2, 4, 0},
		{func(x *Term) *Term { return Of(Cat, n, x) }, 2, 6, 1},
		{func(x *Term) *Term { return Of(Star, Of(Or, x, n)) }, 3, 7, 1},
	} {
		x, y := n, n
		for range deep {
			x, y = c.round(x), c.round(y)
		}
		// The innermost one may need fewer parentheses than the others.
		if s := x.String(); len(s) > 1+deep*c.text || len(s) < deep*c.text-2 {
			t.Errorf("%s ..: %d bytes", s[:20], len(s))
		}
		if m := x.Nest(); m > deep*c.nest || m < deep*c.nest-1 {
			t.Errorf("%d within one another", m)
		}
		if m := x.Size(); m != 1+deep*c.size {
			t.Errorf("Size %d", m)
		}
		if !x.Same(y) || x.Same(c.round(y)) || !x.Walk(func(*Term) bool { return true }) {
			t.Error("Same, or Walk")
		}
	}
}
