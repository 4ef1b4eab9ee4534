package text

import (
	"strings"

	"periscope/api"
	"periscope/re"
	"periscope/set"
)

// Read is the expression that a text is; the error, and where it is.
func Read(s string) (*re.Re, api.Errno, api.Pos) {
	if len(s) > api.MaxText {
		return nil, api.ErrMany, 0
	}
	p := &reader{s: s}
	r := p.or()
	if !p.end() {
		p.fail(api.ErrForm, p.at)
	}
	if p.err == api.OK && r.Size() > api.MaxNodes {
		p.fail(api.ErrMany, 0)
	}
	if p.err != api.OK {
		return nil, p.err, api.Pos(p.where)
	}
	return r, api.OK, 0
}

// reader goes through a text from the left on.
type reader struct {
	s     string
	at    int // the next byte
	deep  int // how many ( are open
	count int // how many atoms, *, + and ? were read
	err   api.Errno
	where int
}

// fail keeps the first error, and goes to the text's end: nothing can go on there, so that whoever still
// reads ends without asking, and what it tells is thrown away.
func (p *reader) fail(err api.Errno, where int) {
	if p.err == api.OK {
		p.err, p.where = err, where
	}
	p.at = len(p.s)
}

// end tells whether nothing but blanks and the like is left; they are skipped.
func (p *reader) end() bool {
	for p.at < len(p.s) && strings.IndexByte(" \t\n\r", p.s[p.at]) >= 0 {
		p.at++
	}
	return p.at == len(p.s)
}

// sign takes a sign, perhaps behind blanks and the like: whether it is there.
func (p *reader) sign(b byte) bool { return !p.end() && p.here(b) }

// here takes a sign that must stand just here: whether it does.
func (p *reader) here(b byte) bool {
	if p.at < len(p.s) && p.s[p.at] == b {
		p.at++
		return true
	}
	return false
}

func (p *reader) or() *re.Re {
	list := []*re.Re{p.minus()}
	for p.sign('|') {
		list = append(list, p.minus())
	}
	return re.Any(list...)
}

func (p *reader) minus() *re.Re {
	r := p.and()
	for p.sign('-') {
		r = re.But(r, p.and())
	}
	return r
}

func (p *reader) and() *re.Re {
	list := []*re.Re{p.cat()}
	for p.sign('&') {
		list = append(list, p.cat())
	}
	return re.Both(list...)
}

func (p *reader) cat() *re.Re {
	list := []*re.Re{p.post()}
	for !p.end() && strings.IndexByte("|-&)", p.s[p.at]) < 0 {
		list = append(list, p.post())
	}
	return re.Then(list...)
}

func (p *reader) post() *re.Re {
	r := p.atom()
	for {
		switch {
		case p.sign('*'):
			r = re.Many(r)
		case p.sign('+'):
			r = re.Then(r, re.Many(r))
		case p.sign('?'):
			r = re.Any(r, re.Empty())
		default:
			return r
		}
		p.counted()
		// Each + takes what is ahead of it twice: unless it is stopped here it grows beyond all bounds.
		if r.Size() > api.MaxNodes {
			p.fail(api.ErrMany, p.at)
		}
	}
}

// counted counts an atom, *, + or ? that was read.
func (p *reader) counted() {
	if p.count++; p.count > api.MaxNodes {
		p.fail(api.ErrMany, p.at)
	}
}

func (p *reader) atom() *re.Re {
	var r *re.Re
	switch {
	case p.sign('('):
		r = p.group()
	case p.sign('['):
		r = re.One(p.class())
	case p.sign('.'):
		r = re.One(set.All())
	default:
		r = re.One(set.Of(p.byte()))
	}
	p.counted()
	return r
}

// group is what stands behind a (, up to its ).
func (p *reader) group() *re.Re {
	if p.deep++; p.deep > api.MaxDeep {
		p.fail(api.ErrDeep, p.at-1)
	}
	r := re.Empty()
	if !p.sign(')') {
		r = p.or()
		if !p.sign(')') {
			p.fail(api.ErrForm, p.at)
		}
	}
	p.deep--
	return r
}

// class is what stands behind a [, up to its ].
func (p *reader) class() set.Set {
	not := p.here('^')
	var s set.Set
	for !p.here(']') && p.err == api.OK {
		low := p.byte()
		high := low
		if p.here('-') {
			high = p.byte()
		}
		if high < low {
			p.fail(api.ErrForm, p.at)
		}
		s = s.Or(set.From(low, high))
	}
	if not {
		return s.Not()
	}
	return s
}

// byte takes a byte that is written just here.
func (p *reader) byte() byte {
	b, n := scan(p.s[p.at:])
	if n == 0 {
		p.fail(api.ErrForm, p.at)
	}
	p.at += n
	return b
}

// scan is the byte that is written at a text's beginning, and by how many bytes; 0: there is none.
func scan(s string) (byte, int) {
	switch {
	case s == "":
		return 0, 0
	case s[0] == '\\':
		return scanMarked(s)
	case !plain(s[0]) || strings.IndexByte(signs, s[0]) >= 0:
		return 0, 0
	}
	return s[0], 1
}

// scanMarked is scan of a text that begins with \.
func scanMarked(s string) (byte, int) {
	if len(s) < 2 {
		return 0, 0
	}
	switch b := s[1]; {
	case b == 'n':
		return '\n', 2
	case b == 't':
		return '\t', 2
	case b == 'x':
		return scanDigits(s)
	case !plain(b) || letter(b):
		return 0, 0
	default:
		return b, 2
	}
}

// scanDigits is scan of a text that begins with \x.
func scanDigits(s string) (byte, int) {
	if len(s) < 4 {
		return 0, 0
	}
	high, low := strings.IndexByte(digits, s[2]), strings.IndexByte(digits, s[3])
	if high < 0 || low < 0 {
		return 0, 0
	}
	return byte(high<<4 | low), 4
}

// letter tells whether a byte is a letter or a digit.
func letter(b byte) bool {
	return b >= '0' && b <= '9' || b >= 'a' && b <= 'z' || b >= 'A' && b <= 'Z'
}
