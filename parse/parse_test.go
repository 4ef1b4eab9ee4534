package parse

import (
	"strings"
	"testing"

	"periscope/api"
	"periscope/lens"
)

func TestString(t *testing.T) {
	x, copyA := &lens.Term{Op: lens.Name, Name: "x"}, &lens.Term{Op: lens.Copy, Re: read("a")}
	for _, c := range []struct {
		p    *Program
		want string
	}{
		{nil, ""},
		{&Program{Body: x}, "x"},
		{&Program{Body: lens.Of(lens.Cat, copyA, x)}, "copy /a/ . x"},
		{&Program{Lets: []Let{}, Body: x}, "x"},
		{&Program{Lets: []Let{{Name: "x", Term: copyA, At: 9}}, Body: x}, "let x = copy /a/ in\nx"},
		{&Program{Lets: []Let{{Name: "x", Term: lens.Of(lens.Or, copyA, copyA)}, {Name: "y", Term: x}}, Body: lens.Of(lens.Star, x)},
			"let x = copy /a/ | copy /a/ in\nlet y = x in\nx*"},
		{&Program{Lets: []Let{{Name: "x"}}, Body: x}, "let x = () in\nx"},
	} {
		if s := c.p.String(); s != c.want {
			t.Errorf("%q, not %q", s, c.want)
		}
	}
}

func TestSame(t *testing.T) {
	x, y := &lens.Term{Op: lens.Name, Name: "x"}, &lens.Term{Op: lens.Name, Name: "y", At: 3}
	none := (*Program)(nil)
	a, b := Let{Name: "a", Term: x}, Let{Name: "b", Term: y, At: 5}
	for _, c := range []struct {
		name string
		p, o *Program
		want bool
	}{
		{"nil and nil", none, none, true},
		{"nil and a program", none, &Program{}, false},
		{"of nothing", &Program{}, &Program{Lets: []Let{}}, true},
		{"bodies", &Program{Body: x}, &Program{Body: x}, true},
		{"other bodies", &Program{Body: x}, &Program{Body: y}, false},
		{"no body", &Program{Body: x}, &Program{}, false},
		{"a body elsewhere", &Program{Body: x}, &Program{Body: &lens.Term{Name: "x", At: 8}}, true},
		{"Lets", &Program{Lets: []Let{a, b}, Body: x}, &Program{Lets: []Let{a, b}, Body: x}, true},
		{"Lets in another order", &Program{Lets: []Let{a, b}, Body: x}, &Program{Lets: []Let{b, a}, Body: x}, false},
		{"one Let more", &Program{Lets: []Let{a, b}, Body: x}, &Program{Lets: []Let{a}, Body: x}, false},
		{"no Let", &Program{Lets: []Let{a}, Body: x}, &Program{Body: x}, false},
		{"another Name", &Program{Lets: []Let{a}, Body: x}, &Program{Lets: []Let{{Name: "c", Term: x}}, Body: x}, false},
		{"another Term", &Program{Lets: []Let{a}, Body: x}, &Program{Lets: []Let{{Name: "a", Term: y}}, Body: x}, false},
		{"no Term", &Program{Lets: []Let{a}, Body: x}, &Program{Lets: []Let{{Name: "a"}}, Body: x}, false},
		{"no Terms", &Program{Lets: []Let{{Name: "a"}}, Body: x}, &Program{Lets: []Let{{Name: "a"}}, Body: x}, true},
		{"a Let elsewhere", &Program{Lets: []Let{b}, Body: x}, &Program{Lets: []Let{{Name: "b", Term: &lens.Term{Name: "y"}}}, Body: x}, true},
	} {
		if c.p.Same(c.o) != c.want || c.o.Same(c.p) != c.want {
			t.Errorf("%s: not %v", c.name, c.want)
		}
	}
}

// wantBack holds a program to what is read of its String.
func wantBack(t *testing.T, p *Program) {
	t.Helper()
	s := p.String()
	if len(s) > api.MaxText {
		return
	}
	q, e, at := Read(s)
	if e != api.OK {
		t.Fatalf("%q: %d at %d", short(s), e, at)
	}
	if !q.Same(p) || !p.Same(q) || q.String() != s {
		t.Fatalf("%q is read as %q", short(s), short(q.String()))
	}
}

func TestReadOfString(t *testing.T) {
	for seed := range 1500 {
		w := newWriter(seed, seed%80)
		want := w.program(w.below(4))
		s, at := lay(w.draw, w.tokens)
		settle(want, at)
		p := wantProgram(t, s, want)
		if !p.Same(want) {
			t.Fatalf("%q isn't the same, made otherwise", s)
		}
		wantBack(t, p)
	}
}

// What is just within the limits is so as it is written, too.
func TestReadOfStringAtTheLimits(t *testing.T) {
	list := []string{
		strings.Repeat("(", 60) + "x" + strings.Repeat(")", 60),
		strings.Repeat("(", 60) + "x" + strings.Repeat("*)", 60),
		strings.Repeat("x.(", 60) + "x" + strings.Repeat(")", 60),
		strings.Repeat("swap(x,(x|y).", 30) + "x" + strings.Repeat(")", 30),
		strings.Repeat("inv(", 60) + "x" + strings.Repeat(")*", 60),
		"x" + strings.Repeat("*", 999),
		"x" + strings.Repeat("|x", 499),
		strings.Repeat("let a = x*;x in ", 200) + "x" + strings.Repeat("*", 199),
		"copy /" + strings.Repeat("ab", 149) + "a/",
		"copy /" + nested(50, "(", "b)*") + "/",
		"copy /" + nested(50, `\\(`, "b)*") + "/",
		"copy /" + strings.Repeat("(", 48) + "(()|ab)c" + strings.Repeat("b)*", 48) + "/",
		`ins "` + strings.Repeat(`\x00`, 16000) + `"`,
	}
	for _, s := range list {
		p, e, at := Read(s)
		if e != api.OK {
			t.Fatalf("%q: %d at %d", short(s), e, at)
		}
		wantBack(t, p)
	}
}

// No call turns what is handed in.
func TestNothingIsTurned(t *testing.T) {
	for seed := range 100 {
		w := newWriter(seed, 30)
		p := w.program(3)
		before := dumpAll(p)
		_ = p.String()
		_ = p.Same(&Program{Lets: p.Lets, Body: p.Body})
		if dumpAll(p) != before {
			t.Fatal("a program was turned", before)
		}
	}
}
