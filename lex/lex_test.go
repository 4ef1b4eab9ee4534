package lex

import (
	"strings"
	"testing"

	"periscope/api"
)

func TestKindsInOrder(t *testing.T) {
	for i, k := range []Kind{End, Word, Sign, Text, Re} {
		if int(k) != i {
			t.Errorf("Kind %d is %d", i, k)
		}
	}
}

func TestLetter(t *testing.T) {
	for b := range 256 {
		s := string([]byte{byte(b)})
		if x := Letter(byte(b), true); x != strings.Contains(firsts, s) {
			t.Errorf("byte %d ahead: %v", b, x)
		}
		if x := Letter(byte(b), false); x != strings.Contains(letters, s) {
			t.Errorf("byte %d behind: %v", b, x)
		}
	}
}

func TestName(t *testing.T) {
	for _, w := range reservedWords {
		if Name(w) {
			t.Errorf("%s is a name", w)
		}
		for _, s := range []string{w + "s", w + "_", "_" + w, w + "1", w + w, w[1:], w[:len(w)-1]} {
			if want := s != "" && s != "in" && s != "inv" && s != "ins"; Name(s) != want {
				t.Errorf("%s: not %v", s, want)
			}
		}
		if Name(strings.ToUpper(w)) || Name(" "+w) || Name(w+" ") {
			t.Errorf("%s, otherwise written, is a name", w)
		}
	}
	// What is a word of some other kind is none of the language's.
	for _, w := range []string{"a", "_", "or", "cat", "star", "seq", "re", "name", "lens", "text", "word", "sign", "end", "get", "put", "create", "load", "if"} {
		if !Name(w) {
			t.Errorf("%s is no name", w)
		}
	}
	for n := range 40 {
		for _, s := range []string{strings.Repeat("a", n), strings.Repeat("_", n), strings.Repeat("z9", n)[:n]} {
			if Name(s) != (n >= 1 && n <= 30) {
				t.Errorf("%d bytes: %v", n, Name(s))
			}
		}
	}
	if Name(strings.Repeat("a", 1<<20)) {
		t.Error("a long name")
	}
}

// Each byte in each place of a name.
func TestNameByteByByte(t *testing.T) {
	for b := range 256 {
		s := string([]byte{byte(b)})
		first, behind := strings.Contains(firsts, s), strings.Contains(letters, s)
		for name, want := range map[string]bool{s: first, s + "x": first, "x" + s: behind, "x" + s + "y": behind, strings.Repeat("q", 29) + s: behind,
			strings.Repeat("q", 15) + s + strings.Repeat("q", 14): behind, s + strings.Repeat("q", 29): first} {
			if Name(name) != want {
				t.Errorf("%q: not %v", name, want)
			}
		}
	}
}

func TestNothing(t *testing.T) {
	for _, s := range []string{"", " ", "\t", "\n", "\r", " \t\r\n ", "#", "##", "# a", "#\n", " # a \" / \x00 A \n\t# b", "#a\rb"} {
		wantTokens(t, s, Token{At: api.Pos(len(s))})
	}
}

func TestByHand(t *testing.T) {
	wantTokens(t, "copy /a/", Token{Kind: Word, Text: "copy"}, Token{Kind: Re, Re: read("a"), At: 5}, Token{At: 8})
	wantTokens(t, "del/a|b/\"x\"", Token{Kind: Word, Text: "del"}, Token{Kind: Re, Re: read("a|b"), At: 3}, Token{Kind: Text, Text: "x", At: 8}, Token{At: 11})
	wantTokens(t, "#x\nlet#y\n a1#", Token{Kind: Word, Text: "let", At: 3}, Token{Kind: Word, Text: "a1", At: 10}, Token{At: 13})
	wantTokens(t, "_**", Token{Kind: Word, Text: "_"}, Token{Kind: Sign, Text: "*", At: 1}, Token{Kind: Sign, Text: "*", At: 2}, Token{At: 3})
	wantTokens(t, "in inv", Token{Kind: Word, Text: "in"}, Token{Kind: Word, Text: "inv", At: 3}, Token{At: 6})
	wantTokens(t, `/a//b/""""`, Token{Kind: Re, Re: read("a")}, Token{Kind: Re, Re: read("b"), At: 3}, Token{Kind: Text, At: 6}, Token{Kind: Text, At: 8}, Token{At: 10})
}

// Each byte at a token's beginning.
func TestEachByte(t *testing.T) {
	for b := range 256 {
		s := string([]byte{byte(b)})
		switch {
		case strings.Contains(" \t\n\r#", s):
			wantTokens(t, "a "+s, Token{Kind: Word, Text: "a"}, Token{At: 3})
		case strings.Contains(firsts, s):
			wantTokens(t, "a "+s, Token{Kind: Word, Text: "a"}, Token{Kind: Word, Text: s, At: 2}, Token{At: 3})
		case strings.Contains("(),.;|*=", s):
			wantTokens(t, "a "+s, Token{Kind: Word, Text: "a"}, Token{Kind: Sign, Text: s, At: 2}, Token{At: 3})
			wantTokens(t, "a"+s+"a", Token{Kind: Word, Text: "a"}, Token{Kind: Sign, Text: s, At: 1}, Token{Kind: Word, Text: "a", At: 2}, Token{At: 3})
		case strings.Contains(`"/`, s):
			wantError(t, "a "+s, api.ErrForm, 3)
		default:
			wantError(t, "a "+s, api.ErrForm, 2)
			wantError(t, s+" a", api.ErrForm, 0)
		}
	}
}

func TestRemarks(t *testing.T) {
	a, b := Token{Kind: Word, Text: "a"}, Token{Kind: Word, Text: "b"}
	for _, s := range []string{" ", "\t", "\n", "\r", "#\n", "# x\n", "#\"\n", "#/\n", "##\n", "#\r\n", "#\r \x80\\\n", " # x\n\t# y\n ", "#\n#\n", "\n\n"} {
		b.At = api.Pos(1 + len(s))
		wantTokens(t, "a"+s+"b", a, b, Token{At: b.At + 1})
		wantTokens(t, "a"+s+"b"+s, a, b, Token{At: b.At + 1 + api.Pos(len(s))})
		wantError(t, s+"A", api.ErrForm, len(s))
	}
	// Other bytes don't end a remark, and other blanks aren't blanks.
	wantTokens(t, "a#\r\v\fb", a, Token{At: 6})
	for _, s := range []string{"\v", "\f", "\x00", "\u00a0", "\u2028", "\ufeff"} {
		wantError(t, "a"+s+"b", api.ErrForm, 1)
	}
	// Within texts and expressions # begins none.
	wantTokens(t, "\"#\"a", Token{Kind: Text, Text: "#"}, Token{Kind: Word, Text: "a", At: 3}, Token{At: 4})
	wantTokens(t, "/#/a", Token{Kind: Re, Re: read("#")}, Token{Kind: Word, Text: "a", At: 3}, Token{At: 4})
}

func TestWords(t *testing.T) {
	for _, w := range append([]string{"a", "_", "z0", "a_9z", letters[:30], strings.Repeat("_", 30)}, reservedWords...) {
		wantTokens(t, w, Token{Kind: Word, Text: w}, Token{At: api.Pos(len(w))})
	}
	for _, n := range []int{31, 32, 100, 60000} {
		w := strings.Repeat("z1", n)[:n]
		wantError(t, w, api.ErrMany, 0)
		wantError(t, "a (\n"+w+" \x00", api.ErrMany, 4)
	}
	wantError(t, "9a", api.ErrForm, 0)
	wantError(t, "aBc", api.ErrForm, 1)
	wantError(t, "a\xc3\xa4", api.ErrForm, 1)
}

func TestGreat(t *testing.T) {
	// Whatever they are, more than MaxText bytes are too many.
	for _, s := range []string{" ", "#", "a", "\x00", "\"", "/", "a "} {
		wantError(t, strings.Repeat(s, 65537)[:65537], api.ErrMany, 0)
	}
	wantError(t, strings.Repeat("a ", 1<<17), api.ErrMany, 0)
	wantTokens(t, strings.Repeat(" ", 65536), Token{At: 65536})
	wantTokens(t, "#"+strings.Repeat("x", 65535), Token{At: 65536})
	wantText(t, strings.Repeat("a", 65000), strings.Repeat("a", 65000))
	wantText(t, strings.Repeat(`\x00`, 16000), strings.Repeat("\x00", 16000))
	wantError(t, "\""+strings.Repeat("a", 65535), api.ErrForm, 65536)
	wantError(t, "/"+strings.Repeat("a", 65535), api.ErrForm, 65536)
	list, e, at := All(strings.Repeat(";", 65536))
	if e != api.OK || at != 0 || len(list) != 65537 {
		t.Fatal(len(list), e, at)
	}
	for i, x := range list {
		want := Token{Kind: Sign, Text: ";", At: api.Pos(i)}
		if i == 65536 {
			want = Token{At: 65536}
		}
		if !same(x, want) {
			t.Fatal(x, want)
		}
	}
}

// The first error from the left is told.
func TestFirstError(t *testing.T) {
	faults := []struct {
		s  string
		e  api.Errno
		at int
	}{
		{"A", api.ErrForm, 0}, {`"\q"`, api.ErrForm, 1}, {"\"a\nb\"", api.ErrForm, 2}, {"/a)/", api.ErrForm, 2}, {strings.Repeat("a", 31), api.ErrMany, 0},
		{"/" + strings.Repeat("a", 1001) + "/", api.ErrMany, 1002}, {"/" + strings.Repeat("(", 61) + "/", api.ErrDeep, 61},
	}
	for _, x := range faults {
		wantError(t, x.s, x.e, x.at)
		for _, y := range faults {
			wantError(t, "b ;\n"+x.s+" "+y.s, x.e, x.at+4)
			// In a remark there is none.
			remark := "b # " + strings.ReplaceAll(y.s, "\n", "") + "\n"
			wantError(t, remark+x.s, x.e, x.at+len(remark))
		}
	}
}

func TestPrograms(t *testing.T) {
	d := draw(1)
	for range 3000 {
		want, s := someProgram(&d)
		wantTokens(t, s, want...)
	}
}

// Cut off anywhere, or with any byte in any place: an error within the text, and nothing beside it, or tokens in order.
func TestAnyText(t *testing.T) {
	d := draw(2)
	for range 1500 {
		_, s := someProgram(&d)
		cut := s[:d.below(len(s)+1)]
		b := []byte(s + " ")
		b[d.below(len(b))] = byte(d.below(256))
		for _, x := range []string{cut, string(b), someText(&d)} {
			list, e, at := All(x)
			if e != api.OK {
				if len(list) != 0 || at < 0 || int(at) > len(x) {
					t.Errorf("%q: %d tokens, %d at %d", x, len(list), e, at)
				}
				continue
			}
			wantOrder(t, x, list)
		}
	}
}

// wantOrder holds tokens to what P11.2 says of any of them.
func wantOrder(t *testing.T, s string, list []Token) {
	t.Helper()
	for i, x := range list {
		last := i == len(list)-1
		if (x.Kind == End) != last || last && int(x.At) != len(s) {
			t.Fatalf("%q: token %d is %v", s, i, x)
		}
		if i > 0 && x.At <= list[i-1].At && !last || int(x.At) > len(s) {
			t.Fatalf("%q: token %d stands at %d", s, i, x.At)
		}
		if (x.Re != nil) != (x.Kind == Re) || x.Text != "" && (x.Kind == Re || x.Kind == End) {
			t.Fatalf("%q: token %d is %v", s, i, x)
		}
		if (x.Kind == Word || x.Kind == Sign) && !strings.HasPrefix(s[x.At:], x.Text) {
			t.Fatalf("%q: token %d is %v", s, i, x)
		}
	}
}

// What one answer's list is turned into isn't seen in another one.
func TestListsAreNotShared(t *testing.T) {
	const s = `copy /a/ . ins "b"`
	x, _, _ := All(s)
	y, _, _ := All(s)
	for i := range x {
		if !same(x[i], y[i]) {
			t.Error(x[i], y[i])
		}
		x[i] = Token{Kind: Sign, Text: "?", At: 99}
	}
	wantTokens(t, s, y...)
}
