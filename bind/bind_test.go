package bind

import (
	"fmt"
	"slices"
	"strings"
	"testing"

	"periscope/api"
	"periscope/lens"
	"periscope/parse"
)

func TestByHand(t *testing.T) {
	for s, want := range map[string]string{
		"let a = /x/ in let b = copy a in b . b":   "copy /x/ . copy /x/",
		"/x/":                                      "/x/",
		"copy /x/ | ins \"a\"":                     "copy /x/ | ins \"a\"",
		"let a = /x/ in a":                         "/x/",
		"let a = /x/ in a . a*":                    "/x/ . /x/*",
		"let a = /x/ in copy /y/":                  "copy /y/",
		"let a = /x/ in copy a . keep a | key a a": "copy /x/ . keep /x/ | key a /x/",
		`let a = /x/ in const a "b" "c" ; del a "d" . norm a "e"`:      `const /x/ "b" "c" ; del /x/ "d" . norm /x/ "e"`,
		"let a = /x/ in let b = a in copy b":                           "copy /x/",
		"let a = /x/ in let b = (a) in let c = b in copy c":            "copy /x/",
		"let a = ins \"x\" | ins \"y\" in a . a":                       `(ins "x" | ins "y") . (ins "x" | ins "y")`,
		"let a = ins \"x\" . ins \"y\" in a . a":                       `ins "x" . ins "y" . (ins "x" . ins "y")`,
		"let a = ins \"x\"* in a*":                                     `ins "x"**`,
		"let a = swap(/x/, /y/) in inv(a) | dict(left(a, right(a,a)))": "inv(swap(/x/, /y/)) | dict(left(swap(/x/, /y/), right(swap(/x/, /y/), swap(/x/, /y/))))",
		"let b = /x/ in let a = b . b in let c = a | b in c ; a":       "(/x/ . /x/ | /x/) ; (/x/ . /x/)",
		"let k = /x/ in key k k . key k /y/":                           "key k /x/ . key k /y/",
	} {
		wantTerm(t, s, want)
	}
}

// Each part stands where it was written.
func TestPlaces(t *testing.T) {
	x := wantTerm(t, "let a = /x/ in let b = copy a* in (b) . b | a", "copy /x/* . copy /x/* | /x/")
	var at []api.Pos
	for _, k := range parts(x) {
		at = append(at, k.At)
	}
	if !slices.Equal(at, []api.Pos{42, 38, 29, 23, 29, 23, 8}) {
		t.Error(at)
	}
}

func TestErrorsByHand(t *testing.T) {
	for s, want := range map[string]struct {
		e  api.Errno
		at int
	}{
		"x":                                                  {api.ErrName, 0},
		"copy x":                                             {api.ErrName, 5},
		"x . y":                                              {api.ErrName, 0},
		"(/a/ | y) . x":                                      {api.ErrName, 7},
		"key k x":                                            {api.ErrName, 6},
		"let a = a in a":                                     {api.ErrName, 8},
		"let a = copy a in a":                                {api.ErrName, 13},
		"let a = b in let b = /x/ in a":                      {api.ErrName, 8},
		"let a = /x/ in let a = b in a":                      {api.ErrTwice, 19},
		"let a = /x/ in let a = /x/ in b":                    {api.ErrTwice, 19},
		"let a = b in let a = /x/ in a":                      {api.ErrName, 8},
		"let a = ins \"x\" in copy a":                        {api.ErrSort, 24},
		"let a = ins \"x\" in copy a . b":                    {api.ErrSort, 24},
		"let a = ins \"x\" in b . copy a":                    {api.ErrName, 19},
		"let a = /x/ . /x/ in key a a":                       {api.ErrSort, 27},
		"let a = /x/* in const a \"\" \"\"":                  {api.ErrSort, 22},
		"let a = copy /x/ in del a \"\"":                     {api.ErrSort, 24},
		"let a = keep /x/ in keep a":                         {api.ErrSort, 25},
		"let a = inv(/x/) in norm a \"\"":                    {api.ErrSort, 25},
		"let a = ins \"\" in let b = a in copy b":            {api.ErrSort, 36},
		"let a = ins \"\" in let b = copy a in c":            {api.ErrSort, 31},
		"let a = /x/ in let b = copy /x/ in copy a . copy b": {api.ErrSort, 49},
	} {
		wantError(t, s, want.e, want.at)
	}
}

// A name alone may stand for a term of any sort: which one it must be a layer above tells.
func TestAllSortsOfTerms(t *testing.T) {
	for _, term := range []string{"/x/", "copy /x/", "keep /x/", `ins ""`, "/x/*", "inv(/x/)", "/x/ | /x/"} {
		for _, place := range []string{"$", "$*", "$ | $", "$ . $", "$ ; $", "swap($, $)", "inv($)", "dict($)", "left($, $)", "right($, $)"} {
			s := "let a = " + term + " in " + strings.ReplaceAll(place, "$", "a")
			want := read(strings.ReplaceAll(place, "$", "("+term+")")).Body
			if x, e, _ := Resolve(read(s)); e != api.OK || !x.Same(want) {
				t.Errorf("%q: %d %v", s, e, x)
			}
		}
	}
}

// Programs of all kinds, held against the document's words.
func TestPrograms(t *testing.T) {
	met := map[api.Errno]int{}
	d := draw(1)
	for range 6000 {
		s := someProgram(&d)
		p := read(s)
		want, e, at := resolved(p)
		before := dumpAll(p)
		x, f, y := Resolve(p)
		if f != e || y != at || dump(x) != dump(want) {
			t.Fatalf("%q: %v, %d at %d, not %v, %d at %d", short(s), x, f, y, want, e, at)
		}
		if dumpAll(p) != before {
			t.Fatalf("%q was turned", s)
		}
		met[e]++
	}
	for _, e := range []api.Errno{api.OK, api.ErrName, api.ErrTwice, api.ErrSort} {
		if met[e] < 100 {
			t.Errorf("%d comes %d times", e, met[e])
		}
	}
}

// The answer is new memory, at each place, and each time.
func TestNothingIsShared(t *testing.T) {
	d := draw(2)
	for range 300 {
		p := read(someProgram(&d))
		x, e, _ := Resolve(p)
		if e != api.OK {
			continue
		}
		y, _, _ := Resolve(p)
		met := map[*lens.Term]int{}
		for _, l := range append(p.Lets, parse.Let{Term: p.Body}) {
			for _, k := range parts(l.Term) {
				met[k]++
			}
		}
		for _, k := range append(parts(x), parts(y)...) {
			if met[k]++; met[k] > 1 {
				t.Fatalf("%v: %v is at two places", p, k)
			}
		}
		before, same := dumpAll(p), dump(y)
		for _, k := range parts(x) {
			for i := range k.Kids {
				k.Kids[i] = nil
			}
		}
		if dumpAll(p) != before || dump(y) != same {
			t.Fatalf("%v: a list of kids is shared", p)
		}
	}
}

func TestMany(t *testing.T) {
	nine := doubled(9) // a8 has 511 parts
	n := len(nine)
	stars := func(i int) string { return strings.Repeat("*", i) }
	// a8 . a7 has 511 + 255 + 1 parts.
	x, e, _ := Resolve(read(nine + "(a8 . a7)" + stars(233)))
	if e != api.OK || x.Size() != 1000 {
		t.Error(e)
	}
	wantError(t, nine+"(a8 . a7)"+stars(234), api.ErrMany, 0)
	wantError(t, nine+"a8 . a8", api.ErrMany, 0)
	wantError(t, nine+"let b = a8 . a8 in x", api.ErrMany, n+4)
	wantError(t, nine+"let b = a8 . a8 in let b = x in x", api.ErrMany, n+4)
	wantError(t, nine+"let b = (a8 . a7)"+stars(234)+" in b", api.ErrMany, n+4)
	wantTerm(t, nine+"let b = (a8 . a7)"+stars(233)+" in a0", `ins ""`)
	wantError(t, nine+"let b = (a8 . a7)"+stars(233)+" in b*", api.ErrMany, 0)
	// Errors of names in a term are told ahead of that of its Size.
	wantError(t, nine+"a8 . a8 . x", api.ErrName, n+10)
	wantError(t, nine+"let b = a8 . copy a8 in b", api.ErrSort, n+18)
	// However great it were.
	wantError(t, doubled(200)+"a0", api.ErrMany, strings.Index(doubled(10), "a9"))
	wantError(t, nine+strings.Repeat("a8 . ", 400)+"a8", api.ErrMany, 0)
	wantError(t, nine+strings.Repeat("a8 . ", 400)+"x", api.ErrName, n+2000)
}

// A name in the place of an expression is none of the parts any more; a name alone is what it stands for.
func TestWhatCounts(t *testing.T) {
	ahead := "let a = /x/ in let b = a in "
	for _, part := range []string{"copy a", "copy b", "key k a", `const a "" ""`, `del a ""`, "keep a", `norm a ""`} {
		s := part + strings.Repeat(" . "+part, 249) // 499 parts, and 250 names
		x, e, at := Resolve(read(ahead + s))
		if e != api.OK || x.Size() != 499 {
			t.Errorf("%q: %d at %d", short(s), e, at)
		}
		wantError(t, ahead+"let c = "+s+" in c . b . b . c", api.ErrMany, 0)
		x, e, at = Resolve(read(ahead + "let c = " + s + " in c . b*"))
		if e != api.OK || x.Size() != 502 {
			t.Errorf("%q: %d at %d", short(s), e, at)
		}
		x, e, at = Resolve(read(ahead + "let c = " + s + " in c . c*"))
		if e != api.OK || x.Size() != 1000 {
			t.Errorf("%q: %d at %d", short(s), e, at)
		}
		wantError(t, ahead+"let c = "+s+" in c* . c*", api.ErrMany, 0)
	}
}

func TestDeep(t *testing.T) {
	invs := func(n int, s string) string { return strings.Repeat("inv(", n) + s + strings.Repeat(")", n) }
	ahead := "let a = " + invs(30, "/x/") + " in "
	n := len(ahead)
	wantTerm(t, ahead+invs(30, "a"), invs(60, "/x/"))
	wantError(t, ahead+invs(31, "a"), api.ErrDeep, 0)
	wantError(t, ahead+"a . "+invs(31, "a"), api.ErrDeep, 0)
	wantError(t, ahead+"let bb = "+invs(31, "a")+" in x", api.ErrDeep, n+4)
	wantError(t, ahead+"let bb = "+invs(31, "a")+" in let bb = x in x", api.ErrDeep, n+4)
	wantError(t, ahead+"let b = "+invs(30, "a")+" in inv(b)", api.ErrDeep, 0)
	wantTerm(t, ahead+"let b = "+invs(30, "a")+" in b . b*", invs(60, "/x/")+" . "+invs(60, "/x/")+"*")
	// Parentheses count that must be written, and those that were alone don't.
	wantTerm(t, "let a = /x/ | /y/ in "+invs(60, "a"), invs(60, "/x/ | /y/"))
	wantTerm(t, "let a = /x/ | /y/ in "+invs(59, "a*"), invs(59, "(/x/ | /y/)*"))
	wantError(t, "let a = /x/ | /y/ in "+invs(60, "a*"), api.ErrDeep, 0)
	wantTerm(t, ahead+strings.Repeat("(", 60)+"a"+strings.Repeat(")", 60), invs(30, "/x/"))
	wantTerm(t, "let a = "+strings.Repeat("(", 60)+"/x/"+strings.Repeat(")", 60)+" in "+invs(60, "a"), invs(60, "/x/"))
	// Too many are told ahead of too deep, too deep ahead of the next Let's errors.
	wantError(t, ahead+"let b = "+invs(31, "a")+strings.Repeat(" . a", 30)+" in x", api.ErrMany, n+4)
	wantError(t, ahead+"let b = "+invs(31, "a")+strings.Repeat(" . a", 29)+" in x", api.ErrDeep, n+4)
	wantError(t, ahead+"let b = "+invs(31, "a")+" . x in x", api.ErrName, n+8+31*4+1+31+3)
}

func TestArguments(t *testing.T) {
	for _, p := range []*parse.Program{nil, {}, {Lets: read("let a = a in let a = a in a").Lets}} {
		if x, e, at := Resolve(p); x != nil || e != api.ErrArg || at != 0 {
			t.Errorf("%v: %v, %d at %d", p, x, e, at)
		}
	}
}

// Programs that were made by hand, of any parts, end.
func TestAnyPrograms(t *testing.T) {
	d := draw(3)
	var some func(deep int) *lens.Term
	some = func(deep int) *lens.Term {
		if d.below(6) == 0 {
			return nil
		}
		x := &lens.Term{Op: lens.Op(d.below(20) - 1), Name: pick(&d, "a", "b", "")}
		if d.below(2) == 0 {
			x.Op = lens.Name
		}
		for range d.below(3) * min(deep, 1) {
			x.Kids = append(x.Kids, some(deep-1))
		}
		return x
	}
	for range 5000 {
		p := &parse.Program{Body: some(3)}
		for _, name := range []string{"a", "b", ""} {
			p.Lets = append(p.Lets, parse.Let{Name: name, At: 7, Term: some(2)})
		}
		x, e, at := Resolve(p)
		if e != api.OK && (x != nil || e == api.ErrSort && at != 0) {
			t.Fatal(x, e, at)
		}
		if n := Names(x); e == api.OK && len(n) > 0 {
			t.Fatal(x, n)
		}
	}
}

// What is resolved is read back as itself, without Lets.
func TestReadBack(t *testing.T) {
	invs := func(n int, s string) string { return strings.Repeat("inv(", n) + s + strings.Repeat(")", n) }
	list := []string{
		"let a = " + invs(30, "/x/ | /y/") + " in " + invs(29, "a*"),
		doubled(9) + "(a8 . a7)" + strings.Repeat("*", 233),
		"let a = /" + strings.Repeat("ab", 149) + "a/ in copy a . (a | a . copy a)",
		"let a = /" + strings.Repeat("(", 50) + "a" + strings.Repeat("b)*", 50) + "/ in copy a . a",
	}
	d := draw(4)
	for range 2000 {
		list = append(list, someProgram(&d))
	}
	n := 0
	for _, s := range list {
		x, e, _ := Resolve(read(s))
		if e != api.OK || len(x.String()) > api.MaxText {
			continue
		}
		n++
		p, e, at := parse.Read(x.String())
		if e != api.OK || len(p.Lets) > 0 || !p.Body.Same(x) {
			t.Fatalf("%q: %q is read as %v, %d at %d", short(s), short(x.String()), p, e, at)
		}
		if y, e, _ := Resolve(p); e != api.OK || !y.Same(x) {
			t.Fatalf("%q: resolved twice it is %v", short(s), y)
		}
	}
	if n < 1000 {
		t.Error(n)
	}
}

func TestNames(t *testing.T) {
	for s, want := range map[string]string{
		"/a/":                  "",
		`key k /a/ . ins "x"`:  "",
		"x":                    "x",
		"x . x":                "x",
		"x . y | x":            "x y",
		"y . x | (z | x) . y*": "y x z",
		"copy b . key c a":     "b a",
		`const e "" "" | del d "" ; norm c "" . keep b . inv(copy a)`: "e d c b a",
		"swap(b, a) . left(c, b) . right(a, d) . dict(e*)":            "b a c d e",
		"let a = b in let c = d in e . c":                             "e c",
	} {
		if list := Names(read(s).Body); strings.Join(list, " ") != want {
			t.Errorf("%q: %v, not %s", s, list, want)
		}
	}
	if list := Names(nil); len(list) != 0 {
		t.Error(list)
	}
	d := draw(5)
	for range 500 {
		x := read(someProgram(&d)).Body
		var want []string
		for _, u := range uses(x) {
			if !slices.Contains(want, u.name.Name) {
				want = append(want, u.name.Name)
			}
		}
		before := dump(x)
		list := Names(x)
		if !slices.Equal(list, want) || dump(x) != before {
			t.Fatalf("%v: %v, not %v", x, list, want)
		}
		if len(list) > 0 {
			list[0] = "changed"
			if !slices.Equal(Names(x), want) {
				t.Fatal("the list is shared")
			}
		}
	}
	// Terms by hand: those of other Ops have Names, too, that aren't told.
	x := lens.Of(lens.Cat, &lens.Term{Op: lens.Re, Name: "r"}, nil, &lens.Term{Op: lens.Name, Kids: []*lens.Term{{Name: "b"}}}, &lens.Term{Op: lens.Key, Name: "b"})
	if list := Names(x); fmt.Sprintf("%q", list) != `["" "b"]` {
		t.Errorf("%q", list)
	}
}
