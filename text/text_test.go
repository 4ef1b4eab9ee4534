package text

import (
	"strings"
	"testing"

	"periscope/api"
	"periscope/re"
	"periscope/set"
)

func TestByte(t *testing.T) {
	ways := written()
	for b := range 256 {
		if s := Byte(byte(b)); s != ways[b] {
			t.Errorf("byte %d: %q, not %q", b, s, ways[b])
		}
		wantRead(t, Byte(byte(b)), re.One(set.Of(byte(b))))
	}
	for b, want := range map[byte]string{0: `\x00`, 8: `\x08`, 9: `\t`, 10: `\n`, 13: `\x0d`, 31: `\x1f`, ' ': `\ `, '!': "!", '"': `\"`, '\'': "'",
		',': ",", '-': `\-`, '0': "0", '@': "@", 'A': "A", '\\': `\\`, '_': "_", '`': "`", '{': "{", '~': "~", 127: `\x7f`, 128: `\x80`, 0xab: `\xab`, 255: `\xff`} {
		if s := Byte(b); s != want {
			t.Errorf("byte %d: %q, not %q", b, s, want)
		}
	}
}

func TestOfByHand(t *testing.T) {
	a, b, c := re.Word("a"), re.Word("b"), re.Word("c")
	as, bs, cs := re.Many(a), re.Many(b), re.Many(c)
	ab := re.Word("ab")
	for _, x := range []struct {
		r    *re.Re
		want string
	}{
		{nil, "[]"}, {re.Nothing(), "[]"}, {re.Empty(), "()"}, {a, "a"}, {ab, "ab"}, {re.Word("a b\n*"), `a\ b\n\*`},
		{re.One(set.All()), "."}, {re.One(set.Of('a', 'b')), "[a-b]"}, {re.One(set.Of('a', 'c')), "[ac]"},
		{re.One(set.Of('a', 'b', 'c', 'x')), "[a-cx]"}, {re.One(set.Of('a').Not()), "[^a]"}, {re.One(set.From('a', 'c').Not()), "[^a-c]"},
		{re.One(set.Of('^', ']')), `[\]-\^]`}, {re.One(set.Of('^')), `\^`}, {re.One(set.Of('-', 'z')), `[\-z]`}, {re.One(set.Of('.')), `\.`},
		{re.One(set.From(0, 127)), `[\x00-\x7f]`}, {re.One(set.From(0, 128)), `[^\x81-\xff]`}, {re.One(set.From(128, 255)), `[\x80-\xff]`},
		{re.One(set.From(127, 255)), `[^\x00-~]`}, {re.One(set.Of(0, 255)), `[\x00\xff]`}, {re.One(set.Of(0).Not()), `[^\x00]`},
		{re.One(set.Of('\n', '\t')), `[\t-\n]`}, {re.One(set.Of('/', '#', ' ')), `[\ \#\/]`},
		{as, "a*"}, {re.Many(ab), "(ab)*"}, {re.Many(re.One(set.Of('a', 'b'))), "[a-b]*"}, {re.Many(re.One(set.All())), ".*"},
		{re.Many(re.Any(as, b)), "(b|a*)*"}, {re.Many(re.Both(as, bs)), "(a*&b*)*"}, {re.Many(re.But(as, b)), "(a*-b)*"},
		{re.Then(as, b, cs), "a*bc*"}, {re.Then(re.Any(as, b), c), "(b|a*)c"}, {re.Then(a, re.Both(as, bs)), "a(a*&b*)"}, {re.Then(re.But(as, bs), c), "(a*-b*)c"},
		{re.Any(a, re.Empty()), "()|a"}, {re.Any(ab, as, re.Empty()), "()|ab|a*"}, {re.Any(as, re.Both(bs, cs)), "a*|b*&c*"}, {re.Any(as, re.But(bs, c)), "a*|b*-c"},
		{re.Both(as, ab), "ab&a*"}, {re.Both(as, re.Any(ab, bs)), "(ab|b*)&a*"}, {re.Both(as, re.But(bs, b)), "a*&(b*-b)"}, {re.Both(re.Empty(), as), "()&a*"},
		{re.But(as, b), "a*-b"}, {re.But(re.But(as, b), c), "a*-b-c"}, {re.But(as, re.But(bs, b)), "a*-(b*-b)"},
		{re.But(re.Any(as, ab), b), "(ab|a*)-b"}, {re.But(as, re.Any(bs, ab)), "a*-(ab|b*)"}, {re.But(re.Both(as, bs), b), "a*&b*-b"}, {re.But(as, re.Both(as, bs)), "a*-a*&b*"},
		{re.But(ab, as), "ab-a*"}, {re.But(re.Empty(), a), "()-a"}, {re.But(as, re.Empty()), "a*-()"},
		{re.Many(re.Then(re.Many(ab), re.Any(re.But(as, b), re.Many(re.Any(ab, re.Empty()))))), "((ab)*((()|ab)*|a*-b))*"},
	} {
		if s := Of(x.r); s != x.want {
			t.Errorf("%q, not %q", s, x.want)
		}
		if x.r != nil {
			wantRead(t, x.want, x.r)
		}
	}
}

// A class, by P4.3's words: which bytes must stand in its text.
func TestOfClasses(t *testing.T) {
	ways := written()
	d := draw(3)
	for i := range 4000 {
		s := someSet(&d)
		if i < 256 {
			s = set.From(0, byte(i))
		}
		want := ""
		in := func(b int, not bool) bool { return b < 256 && s.Has(byte(b)) != not }
		runs := func(not bool) {
			for b := 0; b < 256; b++ {
				if !in(b, not) {
					continue
				}
				want += ways[b]
				first := b
				for in(b+1, not) {
					b++
				}
				if b > first {
					want += "-" + ways[b]
				}
			}
		}
		switch n := s.Len(); {
		case n == 256:
			want = "."
		case n == 1:
			runs(false)
		case n > 128:
			want = "[^"
			runs(true)
			want += "]"
		default:
			want = "["
			runs(false)
			want += "]"
		}
		if got := Of(re.One(s)); got != want {
			t.Fatalf("%x: %q, not %q", s, got, want)
		}
		wantRead(t, want, re.One(s))
	}
}

// Expressions of all kinds, within all kinds: parentheses just where they are needed.
func TestParentheses(t *testing.T) {
	a, b, c := re.Word("a"), re.Word("b"), re.Many(re.Word("c"))
	kids := []*re.Re{re.Any(re.Word("ab"), c), re.But(c, b), re.Both(c, re.Word("ab")), re.Word("ab"), re.Many(b), a, re.Empty(), re.Nothing()}
	texts := []string{"ab|c*", "c*-b", "ab&c*", "ab", "b*", "a", "()", "[]"}
	// Which kids stand bare in a place, from which of them on.
	for _, x := range []struct {
		op   re.Op
		at   int
		bare int
	}{{re.Or, 0, 1}, {re.Or, 1, 1}, {re.Minus, 0, 1}, {re.Minus, 1, 2}, {re.And, 0, 3}, {re.And, 1, 3}, {re.Cat, 0, 4}, {re.Cat, 1, 4}, {re.Star, 0, 5}} {
		for i, k := range kids {
			// Written out by hand, so that nothing is put in order or left out.
			list := []*re.Re{c, c}
			list[x.at] = k
			if x.op == re.Star {
				list = list[:1]
			}
			want := texts[i]
			if i < x.bare {
				want = "(" + want + ")"
			}
			sign := map[re.Op]string{re.Or: "|", re.Minus: "-", re.And: "&", re.Cat: ""}[x.op]
			switch {
			case x.op == re.Star:
				want += "*"
			case x.at == 0:
				want += sign + "c*"
			default:
				want = "c*" + sign + want
			}
			if got := Of(&re.Re{Op: x.op, Kids: list}); got != want {
				t.Errorf("%q, not %q", got, want)
			}
		}
	}
}

func TestReadOfOf(t *testing.T) {
	d := draw(5)
	met := [8]int{}
	great := 0
	for i := range 30000 {
		r := someRe(&d, 1+i%9)
		s := Of(r)
		if r.Size() > api.MaxExpr || nested(s) > api.MaxNest {
			continue
		}
		met[r.Op]++
		if r.Size() > 50 {
			great++
		}
		wantRead(t, s, r)
		if x, _, _ := Read(s); Of(x) != s {
			t.Fatalf("%q is written %q", s, Of(x))
		}
	}
	for op, n := range met {
		if n < 50 {
			t.Errorf("only %d expressions of Op %d", n, op)
		}
	}
	if great < 300 {
		t.Error("only", great, "great ones")
	}
}

// The edges of P4.3: a Size of 300, and 50 parentheses in one another.
func TestReadOfOfAtItsEdges(t *testing.T) {
	word := re.Word(strings.Repeat("ab ", 100)[:299])
	wantRead(t, Of(word), word)
	var list []*re.Re
	for i := range 299 {
		list = append(list, re.Word(string([]byte{byte(i)})))
	}
	many := re.Then(list...)
	wantRead(t, Of(many), many)

	// Each part but the last in parentheses.
	star := re.Word("ab")
	for star.Size() <= api.MaxExpr-3 && nested(Of(star)) < api.MaxNest {
		star = re.Many(re.Then(star, re.Word("c")))
	}
	if n := nested(Of(star)); n != api.MaxNest {
		t.Error("nested", n)
	}
	wantRead(t, Of(star), star)

	either := re.Many(re.Word("xy"))
	for i := range 49 {
		either = re.Then(re.Any(either, re.Empty()), re.Word(string([]byte{byte('a' + i%26)})))
	}
	if either.Size() > api.MaxExpr {
		t.Error("Size", either.Size())
	}
	wantRead(t, Of(either), either)

	// Most atoms for a Size: a Cat of Stars of Ors in parentheses. Parentheses count as atoms, too.
	list = nil
	for i := range 74 {
		list = append(list, re.Many(re.Any(re.Word(string([]byte{byte(i)})), re.Empty())))
	}
	stars := re.Then(list...)
	if stars.Size() != 297 {
		t.Error("Size", stars.Size())
	}
	wantRead(t, Of(stars), stars)
}

// A text of more than MaxText bytes isn't read, even if P4.3 would have it: P4.2 says so of every text.
func TestReadOfOfTooLong(t *testing.T) {
	var s set.Set
	for b := 0x80; b < 0x100; b += 2 {
		s = s.Or(set.Of(byte(b), byte(b-0x80)))
	}
	var list []*re.Re
	for range 299 {
		list = append(list, re.One(s))
	}
	r := re.Then(list...)
	if r.Size() != api.MaxExpr || len(Of(r)) <= api.MaxText {
		t.Error(r.Size(), len(Of(r)))
	}
	wantError(t, Of(r), api.ErrMany, 0)
	short := re.Then(list[:100]...)
	wantRead(t, Of(short), short)
}

func TestOfEndsOfOddOnes(t *testing.T) {
	a := re.Word("a")
	for _, r := range []*re.Re{
		{Op: re.Star}, {Op: re.Minus}, {Op: re.Cat}, {Op: re.Or}, {Op: re.And}, {Op: re.Class}, {Op: 8}, {Op: -1}, {Op: 1 << 40},
		{Op: 99, Kids: []*re.Re{a, nil}}, {Op: re.Star, Kids: []*re.Re{nil}}, {Op: re.Star, Kids: []*re.Re{a, a}}, {Op: re.Minus, Kids: []*re.Re{a}},
		{Op: re.Minus, Kids: []*re.Re{a, nil, a}}, {Op: re.Cat, Kids: []*re.Re{nil, nil}}, {Op: re.None, Kids: []*re.Re{a}},
	} {
		Of(r)
		Of(&re.Re{Op: re.Or, Kids: []*re.Re{r, r, nil}})
	}
	if s := Of(&re.Re{Op: re.Cat, Kids: []*re.Re{nil, a}}); s != "[]a" {
		t.Error(s)
	}
}

func TestOfDeep(t *testing.T) {
	r := re.Word("ab")
	for range 1 << 15 {
		r = re.Many(re.Then(r, re.Word("c")))
	}
	s := Of(r)
	if !strings.HasPrefix(s, "(((((") || !strings.HasSuffix(s, "c)*c)*c)*") || len(s) != 2+4*1<<15 || nested(s) != 1<<15 {
		t.Error("a deep one", len(s))
	}
	wantError(t, s[:api.MaxText], api.ErrDeep, 60)
}

func TestExample(t *testing.T) {
	r, e, at := Read("(a|b)*c-abc")
	if e != api.OK || at != 0 || Of(r) != "[a-b]*c-abc" {
		t.Error(Of(r), e, at)
	}
	if !r.Same(re.But(re.Then(re.Many(re.One(set.Of('a', 'b'))), re.Word("c")), re.Word("abc"))) {
		t.Error("what was read")
	}
}
