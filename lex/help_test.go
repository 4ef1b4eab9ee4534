package lex

import (
	"fmt"
	"slices"
	"strings"
	"testing"

	"periscope/api"
	"periscope/re"
	"periscope/text"
)

// draw is numbers in an order that looks like none, the same each time.
type draw uint64

func (d *draw) below(n int) int {
	*d = *d*6364136223846793005 + 1442695040888963407
	return int(uint64(*d)>>33) % n
}

func pick[T any](d *draw, list ...T) T { return list[d.below(len(list))] }

// reserved words, and all else that may be no name, by P11.1's words.
var reservedWords = []string{"let", "in", "copy", "key", "const", "del", "ins", "swap", "inv", "dict", "left", "right", "keep", "norm"}

const (
	firsts  = "abcdefghijklmnopqrstuvwxyz_"
	letters = firsts + "0123456789"
)

// seen is all bytes from the blank to 7e.
func seen() string {
	out := ""
	for b := ' '; b <= '~'; b++ {
		out += string(b)
	}
	return out
}

// same tells whether two tokens are one.
func same(x, y Token) bool {
	return x.Kind == y.Kind && x.Text == y.Text && x.At == y.At && (x.Re == nil) == (y.Re == nil) && x.Re.Same(y.Re)
}

// short is a text for the eye.
func short(s string) string {
	if len(s) > 90 {
		return s[:40] + " .. " + s[len(s)-40:]
	}
	return s
}

func wantTokens(t *testing.T, s string, want ...Token) {
	t.Helper()
	list, e, at := All(s)
	if e != api.OK || at != 0 {
		t.Errorf("%q: %d at %d", short(s), e, at)
	} else if !slices.EqualFunc(list, want, same) {
		t.Errorf("%q: %v, not %v", short(s), list, want)
	}
}

func wantError(t *testing.T, s string, e api.Errno, at int) {
	t.Helper()
	if list, f, x := All(s); len(list) != 0 || f != e || x != api.Pos(at) {
		t.Errorf("%q: %d tokens, %d at %d, not %d at %d", short(s), len(list), f, x, e, at)
	}
}

// wantText holds a text in quotes, as it is written, to what it is, at the end of a program and within one.
func wantText(t *testing.T, written, is string) {
	t.Helper()
	n := len(written) + 2
	wantTokens(t, `"`+written+`"`, Token{Kind: Text, Text: is}, Token{Kind: End, At: api.Pos(n)})
	wantTokens(t, ` a"`+written+`""b"`, Token{Kind: Word, Text: "a", At: 1}, Token{Kind: Text, Text: is, At: 2},
		Token{Kind: Text, Text: "b", At: api.Pos(n + 2)}, Token{Kind: End, At: api.Pos(n + 5)})
}

// read is an expression that layer 4 can read.
func read(s string) *re.Re {
	r, e, at := text.Read(s)
	if e != api.OK {
		panic(fmt.Sprint(s, e, at))
	}
	return r
}

func someText(d *draw) string {
	if d.below(2) == 0 {
		return pick(d, "", "a", "a b", `"`, `\`, "#", "/", "(a|b)*", "\n")
	}
	out := make([]byte, d.below(12))
	for i := range out {
		out[i] = byte(d.below(256))
	}
	return string(out)
}

// someToken is a token, and how it may be written.
func someToken(d *draw) (Token, string) {
	switch d.below(4) {
	case 0:
		w := pick(d, append(reservedWords, "a", "x1", "_", "lets", strings.Repeat("z", 30))...)
		return Token{Kind: Word, Text: w}, w
	case 1:
		w := pick(d, "(", ")", ",", ".", ";", "|", "*", "=")
		return Token{Kind: Sign, Text: w}, w
	case 2:
		w, s := someText(d), ""
		for i := range len(w) {
			b := text.Byte(w[i])
			// Those that may stand for themselves do so now and then.
			if b == `\`+w[i:i+1] && w[i] != '"' && w[i] != '\\' && d.below(2) == 0 {
				b = w[i : i+1]
			}
			s += b
		}
		return Token{Kind: Text, Text: w}, `"` + s + `"`
	}
	w := pick(d, "a", "(a|b)*c", " a b ", `\/`, `"`, "#", `"#\"`, `a\\`, "[^]", "()", "a\n#\r\tb", `[\/-\\]`, "a-b&c*")
	return Token{Kind: Re, Re: read(w)}, "/" + w + "/"
}

// someBlank is what may stand ahead of a token; must: it isn't empty.
func someBlank(d *draw, must bool) string {
	out := ""
	for must && out == "" || d.below(3) == 0 {
		out += pick(d, " ", "\t", "\n", "\r", "   ", "\r\n", "#\n", "# a remark\n", "#\"/#\x00\xff\r(\n")
	}
	return out
}

// someProgram is a row of tokens, and a text of them.
func someProgram(d *draw) ([]Token, string) {
	var list []Token
	s := ""
	for range d.below(12) {
		t, w := someToken(d)
		behind := len(list) > 0 && list[len(list)-1].Kind == Word && t.Kind == Word
		s += someBlank(d, behind)
		t.At = api.Pos(len(s))
		list, s = append(list, t), s+w
	}
	s += someBlank(d, false)
	if d.below(4) == 0 {
		s += "# to the end"
	}
	return append(list, Token{At: api.Pos(len(s))}), s
}
