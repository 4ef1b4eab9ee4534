package lex

import (
	"strings"

	"periscope/api"
	"periscope/re"
	"periscope/text"
)

// signs are the bytes that are a token each.
const signs = "(),.;|*="

// reader goes through a program from the left on.
type reader struct {
	s     string
	at    int // the next byte
	err   api.Errno
	where int
}

func (p *reader) fail(err api.Errno, where int) { p.err, p.where = err, where }

// token takes the next token, and what stands ahead of it.
func (p *reader) token() Token {
	p.skip()
	t := Token{At: api.Pos(p.at)}
	if p.at == len(p.s) {
		return t
	}
	switch b := p.s[p.at]; {
	case Letter(b, true):
		t.Kind, t.Text = Word, p.word()
	case strings.IndexByte(signs, b) >= 0:
		t.Kind, t.Text = Sign, p.sign()
	case b == '"':
		t.Kind, t.Text = Text, p.text()
	case b == '/':
		t.Kind, t.Re = Re, p.re()
	default:
		p.fail(api.ErrForm, p.at)
	}
	return t
}

// skip goes past blanks and the like, and past remarks.
func (p *reader) skip() {
blanks:
	for p.at < len(p.s) {
		switch p.s[p.at] {
		case ' ', '\t', '\n', '\r':
			p.at++
		case '#':
			line, _, _ := strings.Cut(p.s[p.at:], "\n")
			p.at += len(line)
		default:
			break blanks
		}
	}
}

func (p *reader) word() string {
	from := p.at
	for p.at < len(p.s) && Letter(p.s[p.at], false) {
		p.at++
	}
	if p.at-from > api.MaxName {
		p.fail(api.ErrMany, from)
	}
	return p.s[from:p.at]
}

func (p *reader) sign() string {
	p.at++
	return p.s[p.at-1 : p.at]
}

// text takes what stands between two ": which text it is.
func (p *reader) text() string {
	p.at++
	var out []byte
	for p.at < len(p.s) && p.s[p.at] != '"' {
		b, n := scan(p.s[p.at:])
		if n == 0 {
			p.fail(api.ErrForm, p.at)
			return ""
		}
		out = append(out, b)
		p.at += n
	}
	p.closed()
	return string(out)
}

// closed takes the sign behind a text or an expression, which may be missing at the program's end alone.
func (p *reader) closed() {
	if p.at == len(p.s) {
		p.fail(api.ErrForm, p.at)
	}
	p.at++
}

// scan is the byte that is written at a text's beginning, and by how many bytes; 0: there is none. Without
// a \ ahead all bytes that can be seen stand for themselves: layer 4's signs have no other meaning here.
func scan(s string) (byte, int) {
	if s[0] != '\\' {
		if s[0] < ' ' || s[0] > '~' {
			return 0, 0
		}
		return s[0], 1
	}
	n := 2
	if strings.HasPrefix(s, `\x`) {
		n = 4
	}
	n = min(n, len(s))
	r, err, _ := text.Read(s[:n])
	if err != api.OK {
		return 0, 0
	}
	b, _ := r.Set.Least()
	return b, n
}

// re takes what stands between two /: which expression it is.
func (p *reader) re() *re.Re {
	p.at++
	from := p.at
	for p.at < len(p.s) && p.s[p.at] != '/' {
		if p.s[p.at] == '\\' {
			p.at++
		}
		p.at++
	}
	// A \ that is the last byte counts with a byte that isn't there.
	p.at = min(p.at, len(p.s))
	to := p.at
	p.closed()
	if p.err != api.OK {
		return nil
	}
	r, err, at := text.Read(p.s[from:to])
	if err != api.OK {
		p.fail(err, from+int(at))
	}
	return r
}
