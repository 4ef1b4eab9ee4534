package lex

import (
	"strings"
	"testing"

	"periscope/api"
	"periscope/text"
)

// Each byte, as layer 4 writes it.
func TestTextOfEachByte(t *testing.T) {
	all, written := "", ""
	for b := range 256 {
		s := string([]byte{byte(b)})
		wantText(t, text.Byte(byte(b)), s)
		all, written = all+s, written+text.Byte(byte(b))
	}
	wantText(t, written, all)
	wantText(t, "", "")
}

// Each byte as itself: all that can be seen but \ and " are taken so.
func TestTextOfBareBytes(t *testing.T) {
	for b := range 256 {
		s := string([]byte{byte(b)})
		switch {
		case s == `"`:
			wantTokens(t, `"a""b"`, Token{Kind: Text, Text: "a"}, Token{Kind: Text, Text: "b", At: 3}, Token{At: 6})
		case s == `\`:
			wantText(t, `\\`, s)
		case strings.Contains(seen(), s):
			wantText(t, s, s)
			wantText(t, "a"+s+s+"b", "a"+s+s+"b")
		default:
			wantError(t, `"`+s+`"`, api.ErrForm, 1)
			wantError(t, ` "a\n`+s+`b" A`, api.ErrForm, 5)
		}
	}
	wantText(t, "( ) [ ] | & - * + ? .", "( ) [ ] | & - * + ? .")
}

// Each byte behind a \.
func TestTextOfMarkedBytes(t *testing.T) {
	const known = "abcdefghijklmnopqrstuvwxyzABCDEFGHIJKLMNOPQRSTUVWXYZ0123456789"
	for b := range 256 {
		s := string([]byte{byte(b)})
		switch {
		case s == "n":
			wantText(t, `\n`, "\n")
		case s == "t":
			wantText(t, `\t`, "\t")
		case strings.Contains(seen(), s) && !strings.Contains(known, s):
			wantText(t, `\`+s, s)
			wantText(t, `a\`+s+`\\`, "a"+s+`\`)
		default:
			wantError(t, `"\`+s+`"`, api.ErrForm, 1)
			wantError(t, `"a\\\`+s+`b"`, api.ErrForm, 4)
		}
	}
}

func TestTextOfDigits(t *testing.T) {
	const digits = "0123456789abcdef"
	for b := range 256 {
		wantText(t, `\x`+digits[b/16:b/16+1]+digits[b%16:b%16+1], string([]byte{byte(b)}))
	}
	wantText(t, `\x410`, "A0")
	for _, s := range []string{`\x`, `\x4`, `\xg1`, `\x1g`, `\xA0`, `\x0A`, `\x 1`, `\x\x`, `\X41`, `\x4\"`, `\x-1`} {
		wantError(t, `"`+s+`"`, api.ErrForm, 1)
		wantError(t, ` "ab`+s+`" "`, api.ErrForm, 4)
	}
}

func TestTextWithoutEnd(t *testing.T) {
	for _, s := range []string{`"`, `"a`, `"\"`, `"a\"`, `"\\\"`, `"a /b/ # c`, `"\x22`, `a "b" "`, `"a"b"c \"`} {
		wantError(t, s, api.ErrForm, len(s))
	}
	wantText(t, `\\`, `\`)
	wantText(t, `\"`, `"`)
	wantText(t, `\\\"\\`, `\"\`)
	wantText(t, `/a/ # b`, `/a/ # b`)
	// What can't be is ahead of where it should end.
	wantError(t, "\"a\n", api.ErrForm, 2)
	wantError(t, `"\q # a`, api.ErrForm, 1)
}

// What layer 4 reads between two / stands there as it does.
func TestExpressions(t *testing.T) {
	for _, s := range []string{"a", "(a|b)*c-abc", " a b ", "()", "[]", "[^]", ".", "a+b?", `\/`, `\\`, `\\\/`, `"`, `"a`, `\"`, "#", "a#b", "# a", "a\n\t\rb", `[\/]`, `\x2f`,
		strings.Repeat("a", 999), strings.Repeat("(", 60) + "a" + strings.Repeat(")", 60)} {
		n := api.Pos(len(s) + 2)
		wantTokens(t, "/"+s+"/", Token{Kind: Re, Re: read(s)}, Token{At: n})
		wantTokens(t, "\n in/"+s+"//b/=", Token{Kind: Word, Text: "in", At: 2}, Token{Kind: Re, Re: read(s), At: 4}, Token{Kind: Re, Re: read("b"), At: 4 + n},
			Token{Kind: Sign, Text: "=", At: 7 + n}, Token{At: 8 + n})
	}
}

// Its errors are told where they are in the program.
func TestErrorsOfExpressions(t *testing.T) {
	for _, s := range []string{"", " ", "(", "a|", "a)", "*", "[b-a]", "[a", "[", "a--b", `\q`, `\x4`, `a\x`, "\x00", "a\xff", "&", "(a", "[a-]", `[\\`,
		strings.Repeat("(", 61) + "a" + strings.Repeat(")", 61), strings.Repeat("(", 2000), strings.Repeat("a", 1001), "a" + strings.Repeat("+", 40),
		"(" + strings.Repeat("a", 600) + ")(" + strings.Repeat("b", 401) + ")", "(a|()|b*)" + strings.Repeat("++", 5) + "a", strings.Repeat("[", 300)} {
		_, e, at := text.Read(s)
		if e == api.OK {
			t.Fatalf("%q is an expression", s)
		}
		wantError(t, "/"+s+"/", e, int(at)+1)
		wantError(t, "del \"/\" /a/ /"+s+"/ \"", e, int(at)+13)
	}
	// The whole's Size alone is too great: layer 4 tells 0, which is just behind the /.
	s := strings.Repeat("(a*b*c*d*)?", 99)
	if _, e, at := text.Read(s); e != api.ErrMany || at != 0 {
		t.Fatal(e, at)
	}
	wantError(t, "copy /"+s+"/", api.ErrMany, 6)
}

func TestExpressionWithoutEnd(t *testing.T) {
	for _, s := range []string{"/", "/a", `/\/`, `/a\`, `/\\\/`, "/(", "/)", "/\x00", "/a # b", `/a "b"`, "a /b/ /", "/a/b/", "/\xff\n"} {
		wantError(t, s, api.ErrForm, len(s))
	}
	// A / in a set ends it likewise, but for a \ ahead.
	wantError(t, "/[/]/", api.ErrForm, 2)
	wantTokens(t, `/[\/]/`, Token{Kind: Re, Re: read(`\/`)}, Token{At: 6})
}
