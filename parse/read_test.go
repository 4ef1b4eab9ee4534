package parse

import (
	"strings"
	"testing"

	"periscope/api"
	"periscope/lens"
	"periscope/lex"
)

func TestByHand(t *testing.T) {
	name := func(at api.Pos, s string) *lens.Term { return &lens.Term{Op: lens.Name, At: at, Name: s} }
	term := func(op lens.Op, at api.Pos, kids ...*lens.Term) *lens.Term {
		return &lens.Term{Op: op, At: at, Kids: kids}
	}
	a := read("a")
	for s, want := range map[string]*lens.Term{
		"x":                   name(0, "x"),
		" \n x # x":           name(3, "x"),
		"/a/":                 {Op: lens.Re, Re: a},
		"((x))":               name(2, "x"),
		"copy /a/":            {Op: lens.Copy, Re: a},
		"copy x":              term(lens.Copy, 0, name(5, "x")),
		"(copy x)":            term(lens.Copy, 1, name(6, "x")),
		"keep /a/":            {Op: lens.Keep, Re: a},
		"keep x":              term(lens.Keep, 0, name(5, "x")),
		"key k /a/":           {Op: lens.Key, Name: "k", Re: a},
		"key k k":             {Op: lens.Key, Name: "k", Kids: []*lens.Term{name(6, "k")}},
		`const /a/ "b" "c"`:   {Op: lens.Const, Re: a, Text: "b", Back: "c"},
		`const x "" ""`:       term(lens.Const, 0, name(6, "x")),
		`del /a/ "b"`:         {Op: lens.Del, Re: a, Back: "b"},
		`del x "b"`:           {Op: lens.Del, Back: "b", Kids: []*lens.Term{name(4, "x")}},
		`ins "b"`:             {Op: lens.Ins, Text: "b"},
		`norm /a/ "b"`:        {Op: lens.Norm, Re: a, Text: "b"},
		`norm x "b"`:          {Op: lens.Norm, Text: "b", Kids: []*lens.Term{name(5, "x")}},
		"inv(x)":              term(lens.Inv, 0, name(4, "x")),
		"dict (x)":            term(lens.Dict, 0, name(6, "x")),
		"swap(x,y)":           term(lens.Swap, 0, name(5, "x"), name(7, "y")),
		" left((x), y)":       term(lens.Left, 1, name(7, "x"), name(11, "y")),
		"right(x|y,z)":        term(lens.Right, 0, term(lens.Or, 7, name(6, "x"), name(8, "y")), name(10, "z")),
		"x*":                  term(lens.Star, 1, name(0, "x")),
		"x * *":               term(lens.Star, 4, term(lens.Star, 2, name(0, "x"))),
		"copy x*":             term(lens.Star, 6, term(lens.Copy, 0, name(5, "x"))),
		"a|b|c":               term(lens.Or, 3, term(lens.Or, 1, name(0, "a"), name(2, "b")), name(4, "c")),
		"a.b.c":               term(lens.Cat, 3, term(lens.Cat, 1, name(0, "a"), name(2, "b")), name(4, "c")),
		"a;b;c":               term(lens.Seq, 3, term(lens.Seq, 1, name(0, "a"), name(2, "b")), name(4, "c")),
		"a|(b|c)":             term(lens.Or, 1, name(0, "a"), term(lens.Or, 4, name(3, "b"), name(5, "c"))),
		"a|b.c;d*":            term(lens.Or, 1, name(0, "a"), term(lens.Cat, 3, name(2, "b"), term(lens.Seq, 5, name(4, "c"), term(lens.Star, 7, name(6, "d"))))),
		"a*;b.c|d":            term(lens.Or, 6, term(lens.Cat, 4, term(lens.Seq, 2, term(lens.Star, 1, name(0, "a")), name(3, "b")), name(5, "c")), name(7, "d")),
		"(a|b).c":             term(lens.Cat, 5, term(lens.Or, 2, name(1, "a"), name(3, "b")), name(6, "c")),
		"(a;b)*":              term(lens.Star, 5, term(lens.Seq, 2, name(1, "a"), name(3, "b"))),
		"in1 . lets . copy_x": term(lens.Cat, 11, term(lens.Cat, 4, name(0, "in1"), name(6, "lets")), name(13, "copy_x")),
	} {
		wantProgram(t, s, &Program{Body: want})
	}
	wantProgram(t, `let a = /x/ in copy a . ins "b"`, &Program{
		Lets: []Let{{Name: "a", At: 4, Term: &lens.Term{Op: lens.Re, At: 8, Re: read("x")}}},
		Body: term(lens.Cat, 22, term(lens.Copy, 15, name(20, "a")), &lens.Term{Op: lens.Ins, At: 24, Text: "b"}),
	})
	// Of one name there may be two Lets, here.
	wantProgram(t, "let x=y in let x=x|y in x", &Program{
		Lets: []Let{{Name: "x", At: 4, Term: name(6, "y")}, {Name: "x", At: 15, Term: term(lens.Or, 18, name(17, "x"), name(19, "y"))}},
		Body: name(24, "x"),
	})
}

// All programs, and what stands where in them.
func TestPrograms(t *testing.T) {
	for seed := range 3000 {
		w := newWriter(seed, seed%60)
		want := w.program(w.below(4))
		s, at := lay(w.draw, w.tokens)
		settle(want, at)
		p := wantProgram(t, s, want)
		if q := wantProgram(t, s, want); q == p || len(p.Lets) > 0 && &q.Lets[0] == &p.Lets[0] || p.Body == q.Body {
			t.Fatalf("%q: the same twice", s)
		}
	}
}

// Tokens as they come: the error is where nothing of the grammar goes on.
func TestForms(t *testing.T) {
	ok, n := 0, 8000
	for seed := range n {
		w := newWriter(seed, seed%20)
		w.program(w.below(3))
		tokens := turned(w.draw, w.tokens)
		s, at := lay(w.draw, tokens)
		e, i := faultOf(tokens)
		if e == api.OK {
			ok++
			wantOK(t, s)
		} else {
			wantError(t, s, e, int(at[i]))
		}
	}
	if ok < n/50 || ok > n/2 {
		t.Errorf("%d of %d are programs", ok, n)
	}
}

// Each token, at each place of a program.
func TestEachTokenEverywhere(t *testing.T) {
	w := newWriter(1, 0)
	w.tokens = strings.Fields(`let a = /x/ in swap ( a , copy a ) * . key k /a/ | const a "b" "c" ; ins "d" . left ( keep a , norm /a/ "e" )`)
	for i := range len(w.tokens) + 1 {
		for _, token := range strings.Fields(`( ) , . ; | * = let in copy key const del ins swap inv dict left right keep norm a /a/ "a" End`) {
			tokens := append(append([]string{}, w.tokens[:i]...), strings.TrimPrefix(token, "End"))
			if token != "End" {
				tokens = append(append(tokens, w.tokens[i:]...), "")
			}
			s, at := lay(w.draw, tokens)
			if e, j := faultOf(tokens); e == api.OK {
				wantOK(t, s)
			} else {
				wantError(t, s, e, int(at[j]))
			}
		}
	}
}

func TestErrorsByHand(t *testing.T) {
	for s, at := range map[string]int{
		"": 0, "  ": 2, "# x": 3, "x y": 2, "x /a/": 2, "()": 1, "(x": 2, "(x))": 3, "x)": 1, "x |": 3, "| x": 0, "x | | x": 4, "*": 0, "x . *": 4, "x,y": 1,
		"copy": 4, "copy ()": 5, "copy (x)": 5, "copy copy": 5, `copy "a"`: 5, "copy in": 5, "keep": 4, "key": 3, "key /a/": 4, "key copy x": 4, "key k": 5,
		`key k "a"`: 6, "const x": 7, `const x "a"`: 11, `const "a" "b"`: 6, `const x "a" /b/`: 12, "del x": 5, "del x y": 6, `del "a"`: 4, `del x "a" "b"`: 10,
		"ins": 3, "ins x": 4, `ins /x/`: 4, `ins "a" "b"`: 8, "norm x": 6, "norm x y": 7, "swap x": 5, "swap(x)": 6, "swap(x,y": 8, "swap(x,y,z)": 8, "swap()": 5,
		"inv x": 4, "inv(x,y)": 5, "inv()": 4, "dict(x,y)": 6, "left(x)": 6, "right(x)": 7, "let": 3, "let x": 5, "let x =": 7, "let x = in x": 8,
		"let x = y": 9, "let x = y in": 12, "let copy = x in x": 4, "let in = x in x": 4, "let /a/ = x in x": 4, "let x y in x": 6, "let x = y x": 10,
		"let x = y let z = x in z": 10, "let x = let y = z in y in x": 8, "let x = (let y = z in y) in x": 9, "x let": 2, "in": 0, "x in y": 2, "=": 0, `"a"`: 0,
		"let x = y in let": 16, "let x = y in in": 13,
	} {
		wantError(t, s, api.ErrForm, at)
	}
}

// Errors of tokens are told ahead of all others, and wherever they are.
func TestTokensFirst(t *testing.T) {
	long := strings.Repeat("z", 31)
	for _, s := range []string{"", ") ", "copy copy ", strings.Repeat("(", 70), strings.Repeat("x.", 600), strings.Repeat("let x = x in ", 201), "/" + strings.Repeat("a", 400) + "/"} {
		n := len(s)
		wantError(t, s+"A", api.ErrForm, n)
		wantError(t, s+`x "a`, api.ErrForm, n+4)
		wantError(t, s+long, api.ErrMany, n)
		wantError(t, s+"/(a/", api.ErrForm, n+3)
		wantError(t, s+"/"+strings.Repeat("(", 61)+"/", api.ErrDeep, n+61)
		wantError(t, s+strings.Repeat(" ", api.MaxText+1-n), api.ErrMany, 0)
	}
	if _, e, at := lex.All("x \x00"); e != api.ErrForm || at != 2 {
		t.Error(e, at)
	}
}

func TestDeep(t *testing.T) {
	// Each term in parentheses, up to the ( of the one within, and what is behind it.
	for _, c := range [][2]string{{"(", ")"}, {"inv(", ")"}, {"dict(", ")*"}, {"swap(x,", ")"}, {"swap(", ",x)"}, {"left(x|x, ", ")"}, {"right( y.", ", z)"}} {
		at := strings.Index(c[0], "(")
		for n := 55; n <= 65; n++ {
			ahead, behind := strings.Repeat("(", n), strings.Repeat(")", n)
			s := ahead + c[0] + "x" + c[1] + behind
			switch {
			case n < 60:
				wantOK(t, s)
				wantOK(t, "let y = "+s+" in "+s+" . "+s)
			case n == 60:
				wantError(t, s, api.ErrDeep, 60+at)
			default:
				wantError(t, s, api.ErrDeep, 60)
			}
			s = strings.Repeat(c[0], n) + "x" + strings.Repeat(c[1], n)
			if n <= 60 {
				wantOK(t, s)
			} else {
				wantError(t, s, api.ErrDeep, 60*len(c[0])+at)
			}
		}
	}
	// Those that are closed again don't count, nor do those of expressions and texts.
	wantOK(t, strings.Repeat("(x).", 300)+"x")
	wantOK(t, strings.Repeat("(", 60)+`ins "((" . copy /((a)|b)/`+strings.Repeat(")", 60))
	wantOK(t, strings.Repeat("swap((x),", 59)+"(x)"+strings.Repeat(")", 59))
	wantError(t, strings.Repeat("swap((x),", 60)+"(x)"+strings.Repeat(")", 60), api.ErrDeep, 59*9+5)
	wantError(t, strings.Repeat("(", 1000), api.ErrDeep, 60)
	// Where no ( goes on it is an error of form.
	wantError(t, strings.Repeat("(", 60)+"x (", api.ErrForm, 62)
	wantError(t, strings.Repeat("(", 60)+"copy (", api.ErrForm, 65)
	wantError(t, strings.Repeat("(", 60)+")(", api.ErrForm, 60)
	wantError(t, strings.Repeat("(", 60)+"inv(", api.ErrDeep, 63)
}

// Terms of each kind, as the last ones of those that there may be: they count where they are met.
func TestTerms(t *testing.T) {
	ends := strings.Fields(`. copy x . copy /a/ . key k x . key k /a/ . const x "" "" . const /a/ "" "" . del x "" . del /a/ "" . ins "" | swap ( x , y ) ; inv ( x ) * .
		dict ( /a/ ) | left ( x , /a/ ) . right ( x , x ) . keep x . keep /a/ . norm x "" . norm /a/ "" * . ( ( x ) ) ; x |`)
	counted := 0
	for i := range ends {
		if isTerm(ends, i) {
			counted++
		}
	}
	for left := range counted + 3 {
		tokens := []string{"x"}
		if left%2 == 0 {
			tokens = append(tokens, "*")
		}
		for n := len(tokens); n < 1000-left; n += 2 {
			tokens = append(tokens, ".", "x")
		}
		d := draw(left)
		tokens = append(append(tokens, ends...), "")
		s, at := lay(&d, tokens)
		e, i := faultOf(tokens)
		if want := api.ErrForm; left < counted && e == want || left >= counted && e != want {
			t.Fatal("the tokens aren't what they must be")
		}
		wantError(t, s, e, int(at[i]))
	}
	wantOK(t, "x"+strings.Repeat("*", 999))
	wantError(t, "x"+strings.Repeat("*", 1000), api.ErrMany, 1000)
	wantError(t, "x"+strings.Repeat("*", 60000), api.ErrMany, 1000)
	wantOK(t, "x"+strings.Repeat("*", 997)+" . x")
	wantError(t, "x"+strings.Repeat("*", 998)+" . x", api.ErrMany, 1002)
	wantError(t, "x"+strings.Repeat("*", 998)+" . )", api.ErrForm, 1002)
	wantError(t, "x"+strings.Repeat("*", 999)+" x", api.ErrForm, 1001)
	wantError(t, "x"+strings.Repeat("*", 999)+" . )", api.ErrMany, 1001)
	wantError(t, "x"+strings.Repeat("*", 998)+" . copy )", api.ErrMany, 1002)
	wantError(t, "x"+strings.Repeat("*", 997)+" . copy )", api.ErrForm, 1006)
	wantError(t, "x"+strings.Repeat("*", 997)+" . copy y", api.ErrMany, 1006)
	wantOK(t, "x"+strings.Repeat("*", 997)+" . copy /y/")
}

// The terms of all Lets count, and their names don't.
func TestTermsOfLets(t *testing.T) {
	lets := strings.Repeat("let a = x*|x in ", 200)
	n := len(lets)
	wantOK(t, lets+"x"+strings.Repeat("*", 199))
	wantError(t, lets+"x"+strings.Repeat("*", 200), api.ErrMany, n+200)
	wantError(t, strings.Repeat("let a = x***** in ", 167)+"x", api.ErrMany, 166*18+12)
}

func TestLets(t *testing.T) {
	let := "let a = x in "
	wantOK(t, strings.Repeat(let, 200)+"x")
	wantError(t, strings.Repeat(let, 201)+"x", api.ErrMany, 200*len(let))
	wantError(t, strings.Repeat(let, 200)+"let", api.ErrMany, 200*len(let))
	wantError(t, strings.Repeat(let, 200)+"in", api.ErrForm, 200*len(let))
	wantError(t, strings.Repeat(let, 200)+"x let", api.ErrForm, 200*len(let)+2)
	wantError(t, strings.Repeat(let, 1000), api.ErrMany, 200*len(let))
	p, e, _ := Read(strings.Repeat(let, 200) + "x")
	if e != api.OK || len(p.Lets) != 200 || p.Lets[199].At != api.Pos(199*len(let)+4) {
		t.Error(e)
	}
}

// nested is an expression, of such parts within one another: ahead, itself, behind.
func nested(n int, ahead, behind string) string {
	return strings.Repeat(ahead, n) + "a" + strings.Repeat(behind, n)
}

func TestGreatExpressions(t *testing.T) {
	// An expression stands wherever an argument does, and alone.
	places := []string{"$", "copy $", "keep $", "key k $", `const $ "" ""`, `del $ ""`, `norm $ ""`, "let y = $ in y", "x | (x . $)*", "swap(x, inv($))"}
	for _, c := range []struct {
		expr string
		ok   bool
	}{
		{strings.Repeat("ab", 149) + "a", true}, // of a Size of 300
		{strings.Repeat("ab", 150), false},
		{strings.Repeat("ab", 499), false},
		{"a" + strings.Repeat("*", 900), true}, // what it is counts, not how it is written
		{strings.Repeat("a|", 900) + "b", true},
		{strings.Repeat("(", 60) + "a" + strings.Repeat(")", 60), true},
		{"[" + strings.Repeat("abc", 500) + "]", true},
		{nested(50, "(", "b)*"), true},
		{nested(51, "(", "b)*"), false},
		{nested(60, "(", "b)*"), false},
		{nested(50, `\\(`, "b)*"), true}, // a \ that is a byte is none ahead of what is behind it
		{nested(51, `\\(`, "b)*"), false},
		{nested(50, `\\\((`, "b)*"), true},
		{nested(51, `\\\((`, "b)*"), false},
		{nested(30, `\((\(`, `\))*`), true}, // parentheses that are bytes don't count
		{strings.Repeat(`\(`, 200), true},
		{strings.Repeat(`[\(b]`, 200) + strings.Repeat(`[^\)]`, 60), true},
		{"(" + strings.Repeat("(ab)*", 70) + ")*", true}, // nor do those beside one another
		{strings.Repeat("(", 48) + "(()|ab)*" + strings.Repeat("b)*", 48), true},
		{strings.Repeat("(", 49) + "(()|ab)c" + strings.Repeat("b)*", 49), false}, // those of no bytes do
		{strings.Repeat("(", 48) + "(()|ab)c" + strings.Repeat("b)*", 48), true},
		{strings.Repeat("(", 50) + `(\(|ab)c` + strings.Repeat("b)*", 50), false},
		{strings.Repeat("(", 49) + `(\(|ab)c` + strings.Repeat("b)*", 49), true},
	} {
		for _, place := range places {
			s := strings.Replace(place, "$", "/"+c.expr+"/", 1)
			if c.ok {
				wantOK(t, s)
			} else {
				wantError(t, s, api.ErrMany, strings.Index(place, "$"))
			}
		}
	}
	// Where no expression goes on it is an error of form, however great it is.
	great := "/" + strings.Repeat("ab", 150) + "/"
	wantError(t, "x "+great, api.ErrForm, 2)
	wantError(t, "ins "+great, api.ErrForm, 4)
	wantError(t, "let "+great, api.ErrForm, 4)
	wantError(t, "key "+great, api.ErrForm, 4)
	wantError(t, "copy /a/ "+great, api.ErrForm, 9)
}

// Great programs, at the limits and beyond them, some of their tokens others: the first error is told.
func TestFirstError(t *testing.T) {
	great := []string{"/" + strings.Repeat("ab", 150) + "/", "/" + nested(51, "(", "b)*") + "/"}
	met := map[api.Errno]int{}
	for seed := range 200 {
		w := newWriter(seed, 300+seed)
		w.around = 2 + seed%30
		w.program(pick(w.draw, 0, 3, 195, 200, 201, 205))
		tokens := w.tokens
		if w.below(5) == 0 {
			tokens = turned(w.draw, tokens)
		}
		if i := w.below(len(tokens)); w.below(2) == 0 && kind(tokens[i]) == "expr" {
			tokens[i] = pick(w.draw, great...)
		}
		s, at := lay(w.draw, tokens)
		e, i := faultOf(tokens, great...)
		met[e]++
		if e == api.OK {
			wantOK(t, s)
		} else {
			wantError(t, s, e, int(at[i]))
		}
	}
	for _, e := range []api.Errno{api.OK, api.ErrForm, api.ErrDeep, api.ErrMany} {
		if met[e] < 15 {
			t.Errorf("%d comes %d times", e, met[e])
		}
	}
}

// Any bytes: it ends, and tells a program, or an error within the text alone.
func TestAnyBytes(t *testing.T) {
	d := draw(1)
	parts := []string{"let", "in", "copy", "x", " ", "(", ")", ",", ".", ";", "|", "*", "=", "/a/", `"a"`, "/", `"`, "\\", "#", "\n", "\x00", "\xff", "A", "inv(", "swap("}
	for range 20000 {
		s := ""
		for range d.below(14) {
			s += pick(&d, parts...)
		}
		p, e, at := Read(s)
		if (p == nil) != (e != api.OK) || at < 0 || int(at) > len(s) || e == api.OK && at != 0 {
			t.Errorf("%q: %v, %d at %d", s, p, e, at)
		}
	}
}
