package text

import (
	"strings"
	"testing"

	"periscope/api"
	"periscope/re"
	"periscope/set"
)

// Each byte, as each text of it is spelled; and what looks like one, and isn't.
func TestReadBytes(t *testing.T) {
	ways := spelled()
	for s, b := range ways {
		want := re.One(set.Of(b))
		wantRead(t, s, want)
		wantRead(t, "("+s+")", want)
		wantRead(t, " \n"+s+"\t", want)
		if s != "^" {
			wantRead(t, "["+s+"]", want)
		}
		wantRead(t, "[^"+s+"]", re.One(set.Of(b).Not()))
		wantRead(t, "[^"+s+s+"-"+s+s+"]", re.One(set.Of(b).Not()))
	}
	for b := range 256 {
		c := string([]byte{byte(b)})
		for _, s := range []string{c, `\` + c, `\x` + c, `\x` + c + "0", `\x0` + c} {
			_, ok := ways[s]
			switch {
			case ok || s == ".":
			case strings.Contains("([ \t\n\r", s):
				wantError(t, s, api.ErrForm, 1)
			default:
				wantError(t, s, api.ErrForm, 0)
			}
		}
	}
	wantError(t, `\`, api.ErrForm, 0)
	for _, s := range []string{`\u0041`, `\00`, `\r`, `\N`, `\X41`, `\x 4`, `\q`, `\x`, `\x4`, `\x4G`, `\xA0`, "\x7f", "\x80", "\x1f", "\x0b", "\x00", "\xff", "\u00e4"} {
		wantError(t, s, api.ErrForm, 0)
		wantError(t, "ab "+s, api.ErrForm, 3)
		wantError(t, "(b"+s+")", api.ErrForm, 2)
		wantError(t, "[^"+s+"]", api.ErrForm, 2)
		wantError(t, "[a-"+s+"]", api.ErrForm, 3)
		wantError(t, "a|"+s+"-", api.ErrForm, 2)
	}
}

// By hand: what stands for what.
func TestReadByHand(t *testing.T) {
	a, b, c := re.Word("a"), re.Word("b"), re.Word("c")
	as, bs := re.Many(a), re.Many(b)
	for s, want := range map[string]*re.Re{
		"a":            a,
		"ab":           re.Word("ab"),
		"a b\t\r\nc":   re.Word("abc"),
		"()":           re.Empty(),
		"( \n)":        re.Empty(),
		"()()":         re.Empty(),
		"a()b":         re.Word("ab"),
		"((a))":        a,
		".":            re.One(set.All()),
		"[]":           re.Nothing(),
		"[^]":          re.One(set.All()),
		"[^^]":         re.One(set.Of('^').Not()),
		"[a^]":         re.One(set.Of('a', '^')),
		"[^^-a]":       re.One(set.From('^', 'a').Not()),
		`[\^]`:         re.One(set.Of('^')),
		"[aa]":         a,
		"[a-a]":        a,
		"[a-cb-d]":     re.One(set.From('a', 'd')),
		"[xa-c]":       re.One(set.Of('a', 'b', 'c', 'x')),
		`[\x00-\xff]`:  re.One(set.All()),
		`[\ -\-]`:      re.One(set.From(' ', '-')),
		"[\"-/#]":      re.One(set.From('"', '/')),
		"a*":           as,
		"a *\n*":       as,
		"a+":           re.Then(a, as),
		"a?":           re.Any(a, re.Empty()),
		"a*?":          re.Any(as, re.Empty()),
		"a?*":          re.Many(re.Any(a, re.Empty())),
		"a+?":          re.Any(re.Then(a, as), re.Empty()),
		"a++":          re.Then(a, as, re.Many(re.Then(a, as))),
		"(ab)+":        re.Then(re.Word("ab"), re.Many(re.Word("ab"))),
		"ab*":          re.Then(a, bs),
		"(ab)*":        re.Many(re.Word("ab")),
		"[]*":          re.Empty(),
		"[]+":          re.Nothing(),
		"[]?":          re.Empty(),
		"()*":          re.Empty(),
		"a|b":          re.One(set.Of('a', 'b')),
		"a*|b*|c":      re.Any(as, bs, c),
		"a*&b*&c*":     re.Both(as, bs, re.Many(c)),
		"a*-b-c":       re.But(re.But(as, b), c),
		"a*-(b*-c)":    re.But(as, re.But(bs, c)),
		"a*-b*&.":      re.But(as, re.Both(bs, re.One(set.All()))),
		"a*&b*-.":      re.But(re.Both(as, bs), re.One(set.All())),
		"a*|b*-c":      re.Any(as, re.But(bs, c)),
		"a*-b|c":       re.Any(re.But(as, b), c),
		"a*|b*&.":      re.Any(as, re.Both(bs, re.One(set.All()))),
		"a*b&b*a":      re.Both(re.Then(as, b), re.Then(bs, a)),
		"a*(b*&.)a":    re.Then(as, re.Both(bs, re.One(set.All())), a),
		"(a|b)*c-abc":  re.But(re.Then(re.Many(re.One(set.Of('a', 'b'))), c), re.Word("abc")),
		"(a*|b)c":      re.Then(re.Any(as, b), c),
		"a-a":          re.Nothing(),
		"ab-[]":        re.Word("ab"),
		"a&b":          re.Nothing(),
		`^/"#`:         re.Word(`^/"#`),
		`\^\/\"\#\ \!`: re.Word(`^/"# !`),
		`\x41\n`:       re.Word("A\n"),
		`\x5cx41`:      re.Word(`\x41`),
		`\\x41`:        re.Word(`\x41`),
	} {
		wantRead(t, s, want)
	}
}

func TestFormErrorsByHand(t *testing.T) {
	for s, at := range map[string]int{
		"": 0, " ": 1, " \t\r\n": 4, "(": 1, "( ": 2, "(a": 2, "(a ": 3, "((a)": 4, "a)": 1, "a )": 2, ")": 0, "())": 2,
		"|": 0, "a|": 2, "a| ": 3, "|a": 0, "a||b": 2, "(|a)": 1, "(a|)": 3, "a|*": 2, "a&": 2, "&a": 0, "a&&b": 2,
		"a-": 2, "-a": 0, "a--b": 2, "a -  -b": 5, "a-|b": 2, "*": 0, "+": 0, "?": 0, " *": 1, "(*a)": 1, "a|?": 2,
		"[": 1, "[^": 2, "[a": 2, "[a-": 3, "[a-b": 4, "]": 0, "a]": 1, "[]]": 2, "[-a]": 1, "[^-a]": 2, "[a-]": 3, "[a-b-c]": 4,
		"[ ]": 1, "[a ]": 2, "[a b]": 2, "[a -b]": 2, "[a- b]": 3, "[^ ]": 2, "[ ^a]": 1, "[a\n]": 2, "[a\t]": 2, "[a\r]": 2,
		"[(]": 1, "[)]": 1, "[[]": 1, "[|]": 1, "[&]": 1, "[*]": 1, "[+]": 1, "[?]": 1, "[.]": 1, "[a.]": 2, "[a-.]": 3,
		"[b-a]": 4, "[b-a": 4, "[xb-aa-]": 5, "[a-cb-a]": 7, "[^b-a]": 5, "[/-\"]a": 4, `[b-\x61]`: 7, `x[\n-\t]`: 7, "[b-a]]": 4, "(([b-a": 6,
		`\q`: 0, `a\`: 1, `a \x4`: 2, `[\q-a]`: 1, `[a-\q]`: 3, "\x00": 0, "a\x00": 1, "a\xff": 1, "a \x0c b": 2, "a b\x0b": 3,
		`\ `: -1, "a ": -1, "\ra\r": -1, " ( a | b ) * ": -1, " [a] [b] ": -1, "[^]": -1,
	} {
		if at < 0 {
			if _, e, x := Read(s); e != api.OK || x != 0 {
				t.Errorf("%q: %d at %d", s, e, x)
			}
			continue
		}
		wantError(t, s, api.ErrForm, at)
	}
}

// All short texts of the signs, held against the grammar itself.
func TestFormErrorsOfAll(t *testing.T) {
	g, ways := grammar(), spelled()
	try := func(s string) int {
		want := formError(s, g, ways)
		r, e, at := Read(s)
		switch {
		case want < 0 && (e != api.OK || at != 0 || r == nil):
			t.Errorf("%q: %d at %d, and it is one of the grammar's", s, e, at)
		case want >= 0 && (e != api.ErrForm || at != api.Pos(want) || r != nil):
			t.Errorf("%q: %d at %d, not at %d", s, e, at, want)
		}
		return want
	}
	for _, c := range []struct {
		from string
		long int
	}{{"a()[]|&-*.^\\ ", 4}, {"ab[]^-", 6}, {"a()| *", 5}, {"a&-|()", 5}, {"\\xnq1fA[-", 4}} {
		list := []string{""}
		for len(list) > 0 {
			s := list[0]
			list = list[1:]
			// What is stuck ahead of its end stays so, but for a byte that isn't written out.
			if want := try(s); len(s) == c.long || want >= 0 && want < len(s) && !strings.Contains(s, "\\") {
				continue
			}
			for i := range c.from {
				list = append(list, s+c.from[i:i+1])
			}
		}
	}
}

// Texts of the grammar, put together by its rows, with blanks in between.
func TestReadAgainstRows(t *testing.T) {
	for i := range 6000 {
		p := newProgram(i)
		p.size = 1 + i%40
		s, want := p.or()
		s = p.blank() + s + p.blank()
		if want.Size() > 300 {
			continue
		}
		wantRead(t, s, want)
	}
}

// One byte put in, taken out or changed: the same as the grammar says.
func TestFormErrorsOfTurnedTexts(t *testing.T) {
	g, ways := grammar(), spelled()
	met := 0
	for i := range 3000 {
		p := newProgram(i)
		p.size = 1 + i%10
		s, _ := p.or()
		if len(s) > 60 {
			continue
		}
		at := p.d.below(len(s))
		with := one(p.d, "", "(", ")", "[", "]", "|", "&", "-", "*", "\\", " ", "^", "b", "\x00", ".", "[b-a]")
		s = s[:at] + with + s[min(len(s), at+p.d.below(2)):]
		want := formError(s, g, ways)
		r, e, x := Read(s)
		if want < 0 && (e != api.OK || x != 0) || want >= 0 && (e != api.ErrForm || x != api.Pos(want) || r != nil) {
			t.Errorf("%q: %d at %d, not at %d", s, e, x, want)
		}
		if want >= 0 {
			met++
		}
	}
	if met < 500 {
		t.Error("only", met, "errors")
	}
}

func TestMaxText(t *testing.T) {
	wantRead(t, "a"+strings.Repeat(" ", api.MaxText-1), re.Word("a"))
	wantRead(t, "["+strings.Repeat("ab", api.MaxText/2-1)+"]", re.One(set.Of('a', 'b')))
	wantError(t, "a"+strings.Repeat(" ", api.MaxText), api.ErrMany, 0)
	wantError(t, strings.Repeat("\x00", api.MaxText+1), api.ErrMany, 0)
	wantError(t, strings.Repeat("(", api.MaxText+1), api.ErrMany, 0)
	wantError(t, strings.Repeat(" ", api.MaxText), api.ErrForm, api.MaxText)
	wantError(t, "["+strings.Repeat("a", api.MaxText-1), api.ErrForm, api.MaxText)
	wantError(t, strings.Repeat(" ", api.MaxText-1)+"\x00", api.ErrForm, api.MaxText-1)
}

func TestMaxDeep(t *testing.T) {
	in := func(n int, s string) string { return strings.Repeat("(", n) + s + strings.Repeat(")", n) }
	wantRead(t, in(60, "a"), re.Word("a"))
	wantRead(t, in(59, "()a"), re.Word("a"))
	wantRead(t, in(60, "[a]")+in(60, "b")+"|"+in(60, "c"), re.Any(re.Word("ab"), re.Word("c")))
	wantRead(t, in(59, in(1, "a")+in(1, "b")), re.Word("ab"))
	wantRead(t, strings.Repeat(`\(`, 70), re.Word(strings.Repeat("(", 70)))
	wantError(t, in(61, "a"), api.ErrDeep, 60)
	wantError(t, in(60, "()"), api.ErrDeep, 60)
	wantError(t, in(60, "a ()"), api.ErrDeep, 62)
	wantError(t, in(60, "a")+in(59, "( b )|(( c"), api.ErrDeep, 121+59+7)
	wantError(t, strings.Repeat("(", 61), api.ErrDeep, 60)
	wantError(t, strings.Repeat("(", 60), api.ErrForm, 60)
	wantError(t, strings.Repeat("(", 1000), api.ErrDeep, 60)
	wantError(t, strings.Repeat("( ", 61)+")", api.ErrDeep, 120)
	wantError(t, in(59, "|")+in(61, "a"), api.ErrForm, 59)
}

// More than 1000 atoms, *, + and ?: told where they were read.
func TestMaxNodesRead(t *testing.T) {
	many := strings.Repeat
	wantRead(t, many("()", 1000), re.Empty())
	wantRead(t, "a"+many("*", 999), re.Many(re.Word("a")))
	wantRead(t, many("a|", 999)+"a", re.Word("a"))
	wantRead(t, many("(a)|", 499)+"(a)", re.Word("a"))
	wantRead(t, many("a|", 997)+"(a)*", re.Any(re.Word("a"), re.Many(re.Word("a"))))
	wantRead(t, many("(a)|", 499)+"a*", re.Any(re.Word("a"), re.Many(re.Word("a"))))
	wantRead(t, many(`\x61&`, 999)+`\x61`, re.Word("a"))
	wantRead(t, many("[b-da]|", 999)+".", re.One(set.All()))
	wantRead(t, many("()?", 500), re.Empty())
	wantRead(t, "("+many("()", 998)+")", re.Empty())
	wantRead(t, many("(", 59)+many("()", 881)+many(")", 59)+many("*", 60), re.Empty())

	wantError(t, many("()", 1001), api.ErrMany, 2002)
	wantError(t, "a"+many("*", 1000), api.ErrMany, 1001)
	wantError(t, "a"+many(" *", 1000)+"   ", api.ErrMany, 2001)
	wantError(t, "()"+many("?", 1000), api.ErrMany, 1002)
	wantError(t, "[]"+many("+", 1002), api.ErrMany, 1002)
	wantError(t, many("a|", 1000)+"a ", api.ErrMany, 2001)
	wantError(t, many("a|", 1000)+"[b-da]", api.ErrMany, 2006)
	wantError(t, many("a|", 1000)+`\x61`, api.ErrMany, 2004)
	wantError(t, many("a|", 1000)+".", api.ErrMany, 2001)
	wantError(t, many("a|", 1000)+"()*", api.ErrMany, 2002)
	wantError(t, many("a|", 999)+"( b )*", api.ErrMany, 1998+5)
	wantError(t, many("a", 1001), api.ErrMany, 1001)
	wantError(t, many("a", 1001)+")", api.ErrMany, 1001)
	wantError(t, many("a", 1002), api.ErrMany, 1001)
	wantError(t, many(" a", 1002), api.ErrMany, 2002)
	// What isn't read whole isn't counted.
	wantError(t, many("a|", 1000)+"|", api.ErrForm, 2000)
	wantError(t, many("a|", 1000)+"[a", api.ErrForm, 2002)
	wantError(t, many("a|", 1000)+"[b-a]", api.ErrForm, 2004)
	wantError(t, many("a|", 999)+"(b", api.ErrForm, 2000)
	wantError(t, "("+many("()", 1000), api.ErrForm, 2001)
	wantError(t, "("+many("()", 1000)+")", api.ErrMany, 2002)
	wantError(t, "("+many("()", 1001)+")", api.ErrMany, 2003)
	wantError(t, many("(", 61)+many("a", 1001), api.ErrDeep, 60)
	wantError(t, many("a|", 1001)+many("(", 61), api.ErrMany, 2001)
}

// Sizes above 1000: behind the sign that makes them, or of the whole.
func TestMaxNodesMade(t *testing.T) {
	many := strings.Repeat
	word := func(n int) *re.Re { return re.Word(many("a", n)) }
	wantRead(t, many("a", 999), word(999))
	wantError(t, many("a", 1000), api.ErrMany, 0)
	wantError(t, " "+many("a", 1000)+" ", api.ErrMany, 0)
	wantError(t, many("a", 1000)+")", api.ErrForm, 1000)
	wantRead(t, "("+many("a", 996)+")*", re.Many(word(996)))
	wantRead(t, "("+many("a", 998)+")*", re.Many(word(998)))
	wantError(t, "("+many("a", 997)+")*|b", api.ErrMany, 0)
	wantError(t, "("+many("a", 998)+")?", api.ErrMany, 1001)
	wantError(t, " ( "+many("a", 998)+" ) ? ", api.ErrMany, 1005)
	wantRead(t, "("+many("a", 997)+")?", re.Any(word(997), re.Empty()))
	wantRead(t, "("+many("a", 498)+")+", re.Then(word(498), re.Many(word(498))))
	wantError(t, "("+many("a", 499)+")+", api.ErrMany, 502)
	wantError(t, "("+many("a", 499)+")+&[]", api.ErrMany, 502)
	wantError(t, "("+many("a", 499)+")++", api.ErrMany, 502)
	wantError(t, "("+many("a", 499)+")+)", api.ErrMany, 502)
	wantError(t, "((("+many("a", 499)+")+", api.ErrMany, 504)
	wantError(t, "(b|"+many("a", 998)+")*", api.ErrMany, 1003)
	wantRead(t, many("a|", 900)+many("b", 98)+"*", re.Any(re.Word("a"), re.Then(re.Word(many("b", 97)), re.Many(re.Word("b")))))

	// Each + takes what is ahead of it twice.
	r, n := re.Word("a"), 0
	for r.Size() <= api.MaxNodes {
		r = re.Then(r, re.Many(r))
		n++
	}
	wantError(t, "a"+many("+", n), api.ErrMany, n+1)
	wantError(t, "a"+many("+", 999), api.ErrMany, n+1)
	wantError(t, "a"+many(" +", 30)+"(", api.ErrMany, 2*n+1)
	if _, e, at := Read("a" + many("+", n-1)); e != api.OK || at != 0 {
		t.Error("+ up to 1000:", e, at)
	}
	// Without such a sign only the whole is asked: what is too great in between may vanish.
	great := "a" + many("+", n-1)
	wantError(t, many(great, 9), api.ErrMany, 0)
	wantRead(t, "("+many(great, 9)+")&[]", re.Nothing())
	wantRead(t, many(great, 9)+"[]", re.Nothing())
	wantError(t, "("+many(great, 9)+")*&[]", api.ErrMany, 9*len(great)+3)
	wantRead(t, "[](("+many(great, 9)+"))", re.Nothing())
	wantRead(t, "("+many(great, 9)+"[])*", re.Empty())
}

// The same each time, whatever was read ahead of it, and what was read stays as it is.
func TestReadHangsOnItsTextAlone(t *testing.T) {
	r, _, _ := Read("(a|b)*c-abc")
	key := r.Key()
	for range 3 {
		Read("((((")
		Read(strings.Repeat("a", 2000))
		if x, e, _ := Read("(a|b)*c-abc"); e != api.OK || x.Key() != key || r.Key() != key {
			t.Error("another answer")
		}
	}
}
