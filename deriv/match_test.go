package deriv

import (
	"strings"
	"testing"

	"periscope/re"
	"periscope/text"
)

func TestMatchByHand(t *testing.T) {
	for _, c := range []struct{ r, yes, no string }{
		{"(ab)*", " ab abab ababab", "a b ba aba abb aab"},
		{"[]", "", " a"},
		{"()", " ", "a aa"},
		{"a*b", "b ab aab", " a ba abb"},
		{"(a|ab)(c|bcd)", "ac abc abbcd abcd", " a abd abbc"},
		{".*-abc", " a ab abcd abca babc", "abc"},
		{"(a|b)*&.*aa.*-.*bb.*", "aa aab baa abaa", " a ab bb aabb bbaa"},
		{"((a*)*b?)*", " a b ab ba aabba", "c abc ca"},
		{"a?a?a?aaa", "aaa aaaa aaaaa aaaaaa", "a aa aaaaaaa"},
		{"((a|b)*-b)c", "c ac bac bbc", "bc  a"},
		{"[^a]", "b \xff \x00", "a bb "},
	} {
		r := read(t, c.r)
		for _, s := range strings.Split(c.yes, " ") {
			if !Match(r, s) && c.yes != "" {
				t.Errorf("%s hasn't %q", c.r, s)
			}
		}
		for _, s := range strings.Split(c.no, " ") {
			if Match(r, s) {
				t.Errorf("%s has %q", c.r, s)
			}
		}
	}
}

func TestMatch(t *testing.T) {
	raw, kept := samples(3000)
	met := [2]int{}
	for i, r := range kept {
		for _, s := range words() {
			want := has(raw[i], s)
			if Match(r, s) != want {
				t.Fatalf("%s, %q: %v", text.Of(r), s, !want)
			}
			if want {
				met[1]++
			} else {
				met[0]++
			}
		}
	}
	if met[0] < 10000 || met[1] < 10000 {
		t.Error(met)
	}
}

// Match is Null of By, byte by byte.
func TestMatchIsBy(t *testing.T) {
	_, kept := samples(1000)
	d := draw(2)
	for _, r := range kept {
		s, x := "", r
		for range 8 {
			if Match(r, s) != x.Null() {
				t.Fatalf("%s, %q: %v", text.Of(r), s, !x.Null())
			}
			b := someBytes[d.below(3)]
			s += string(rune(b))
			x = By(x, b)
			if x.Size() > 2000 {
				break
			}
		}
	}
}

func TestMatchOfRaw(t *testing.T) {
	raw, kept := samples(500)
	for i, r := range raw {
		for _, s := range words() {
			if Match(r, s) != Match(kept[i], s) {
				t.Fatalf("%s, written by hand, %q", text.Of(kept[i]), s)
			}
		}
	}
}

func TestMatchOfNil(t *testing.T) {
	if Match(nil, "") || Match(nil, "a") || Match(re.Nothing(), "") || Match(re.Nothing(), "a") {
		t.Error("Nothing has a text")
	}
}

// A text is a row of bytes, whatever runes they are.
func TestMatchBytes(t *testing.T) {
	for _, s := range []string{"\xc3\xa4", "\xff\xfe", "\x00", "a\x00b", "\xe2\x82"} {
		if !Match(re.Word(s), s) || Match(re.Word(s), s[1:]) || Match(re.Word(s), s+"\x00") {
			t.Errorf("%q", s)
		}
	}
	if two := read(t, ".."); !Match(two, "\xc3\xa4") || Match(two, "\xc3") || Match(two, "\xc3\xa4a") {
		t.Error("two bytes")
	}
}

func TestMatchLong(t *testing.T) {
	r := read(t, "((a|b)*&.*ab.*-.*bbbb.*)c?")
	long := strings.Repeat("abba", 1<<14)
	if !Match(r, long) || !Match(r, long+"c") || Match(r, long+"cc") || Match(r, long+"bbbb") || Match(r, "bbbb"+long) {
		t.Error("a long text")
	}
	w := strings.Repeat("abcde", 13107) + "f"
	word := re.Word(w)
	if !Match(word, w) || Match(word, w[:len(w)-1]) || Match(word, w+"f") || Match(word, w[:len(w)-1]+"g") || Match(word, w[1:]) {
		t.Error("a long word")
	}
	deep := re.Empty()
	for range 1 << 12 {
		deep = re.Many(re.Then(re.Word("a"), deep, re.Word("b")))
	}
	n := 1 << 11
	if !Match(deep, strings.Repeat("a", n)+strings.Repeat("b", n)) || Match(deep, strings.Repeat("a", n)+strings.Repeat("b", n-1)) {
		t.Error("a deep one")
	}
}
