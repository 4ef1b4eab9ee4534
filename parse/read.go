package parse

import (
	"periscope/api"
	"periscope/lens"
	"periscope/lex"
	"periscope/re"
	"periscope/text"
)

// Read is the program that a text is; the error, and where it is.
func Read(s string) (p *Program, e api.Errno, at api.Pos) {
	tokens, e, at := lex.All(s)
	if e != api.OK {
		return nil, e, at
	}
	defer func() {
		if caught := recover(); caught != nil {
			why, ok := caught.(stop)
			if !ok {
				// A fault of the reader's own: no call may panic, so the text counts as one that can't be read.
				why = stop{err: api.ErrForm}
			}
			p, e, at = nil, why.err, why.at
		}
	}()
	r := &reader{tokens: tokens}
	return r.program(), api.OK, 0
}

// stop is with what a reader panics, where it gives up: why, and where.
type stop struct {
	err api.Errno
	at  api.Pos
}

func fail(err api.Errno, t lex.Token) { panic(stop{err, t.At}) }

// reader goes through a program's tokens from the left on.
type reader struct {
	tokens []lex.Token // what is still to be read, End the last one
	open   int         // the parentheses that what is read next lies in
	terms  int         // that were met
}

func (r *reader) next() lex.Token { return r.tokens[0] }

func (r *reader) take() lex.Token {
	t := r.tokens[0]
	r.tokens = r.tokens[1:]
	return t
}

func (r *reader) isSign(sign string) bool {
	return r.next().Kind == lex.Sign && r.next().Text == sign
}

func (r *reader) isWord(word string) bool {
	return r.next().Kind == lex.Word && r.next().Text == word
}

func (r *reader) isName() bool {
	return r.next().Kind == lex.Word && lex.Name(r.next().Text)
}

// must takes the next token, if it is what the grammar goes on with.
func (r *reader) must(fits bool) lex.Token {
	if !fits {
		fail(api.ErrForm, r.next())
	}
	return r.take()
}

func (r *reader) sign(sign string) lex.Token { return r.must(r.isSign(sign)) }
func (r *reader) name() lex.Token            { return r.must(r.isName()) }
func (r *reader) text() string               { return r.must(r.next().Kind == lex.Text).Text }

// met is a new term, which stands at a token. It is counted ahead of what is behind that token, so that the
// error told is the first one from the left.
func (r *reader) met(op lens.Op, t lex.Token) *lens.Term {
	r.terms++
	if r.terms > api.MaxNodes {
		fail(api.ErrMany, t)
	}
	return &lens.Term{Op: op, At: t.At}
}

func (r *reader) program() *Program {
	p := &Program{}
	for r.isWord("let") {
		p.Lets = append(p.Lets, r.let(len(p.Lets)))
	}
	p.Body = r.term()
	if r.next().Kind != lex.End {
		fail(api.ErrForm, r.next())
	}
	return p
}

// let takes a Let, ahead of which there are so many.
func (r *reader) let(ahead int) Let {
	t := r.take()
	if ahead == api.MaxBinds {
		fail(api.ErrMany, t)
	}
	name := r.name()
	r.sign("=")
	l := Let{Name: name.Text, At: name.At, Term: r.term()}
	r.must(r.isWord("in"))
	return l
}

func (r *reader) term() *lens.Term { return r.row("|", lens.Or, r.cat) }
func (r *reader) cat() *lens.Term  { return r.row(".", lens.Cat, r.seq) }
func (r *reader) seq() *lens.Term  { return r.row(";", lens.Seq, r.star) }

// row takes parts with a sign between, and puts them together from the left on.
func (r *reader) row(sign string, op lens.Op, part func() *lens.Term) *lens.Term {
	t := part()
	for r.isSign(sign) {
		whole := r.met(op, r.take())
		whole.Kids = []*lens.Term{t, part()}
		t = whole
	}
	return t
}

func (r *reader) star() *lens.Term {
	t := r.atom()
	for r.isSign("*") {
		whole := r.met(lens.Star, r.take())
		whole.Kids = []*lens.Term{t}
		t = whole
	}
	return t
}

func (r *reader) atom() *lens.Term {
	switch {
	case r.isSign("("):
		return r.within(1)[0]
	case r.isName():
		return r.use()
	case r.next().Kind == lex.Re:
		t := r.met(lens.Re, r.next())
		t.Re = r.expr()
		return t
	}
	return r.call()
}

// within takes so many terms in parentheses.
func (r *reader) within(n int) []*lens.Term {
	t := r.sign("(")
	r.open++
	if r.open > api.MaxDeep {
		fail(api.ErrDeep, t)
	}
	list := []*lens.Term{r.term()}
	for len(list) < n {
		r.sign(",")
		list = append(list, r.term())
	}
	r.sign(")")
	r.open--
	return list
}

// use takes a name that stands for a term.
func (r *reader) use() *lens.Term {
	name := r.name()
	t := r.met(lens.Name, name)
	t.Name = name.Text
	return t
}

// expr takes an expression, which may be neither too great nor nested too deep.
func (r *reader) expr() *re.Re {
	t := r.must(r.next().Kind == lex.Re)
	if t.Re.Size() > api.MaxExpr || nest(text.Of(t.Re)) > api.MaxNest {
		fail(api.ErrMany, t)
	}
	return t.Re
}

// nest is how many parentheses of an expression's text lie in one another at most.
func nest(s string) int {
	open, most := 0, 0
	for i := 0; i < len(s); i++ {
		switch s[i] {
		case '\\':
			i++ // the byte behind it is no parenthesis
		case '(':
			open++
			most = max(most, open)
		case ')':
			open--
		}
	}
	return most
}

// call takes a term that begins with a word.
func (r *reader) call() *lens.Term {
	op, ok := wordOp(r.next())
	t := r.met(op, r.must(ok))
	switch op {
	case lens.Copy, lens.Keep:
		r.arg(t)
	case lens.Key:
		t.Name = r.name().Text
		r.arg(t)
	case lens.Const:
		r.arg(t)
		t.Text = r.text()
		t.Back = r.text()
	case lens.Del:
		r.arg(t)
		t.Back = r.text()
	case lens.Norm:
		r.arg(t)
		t.Text = r.text()
	case lens.Ins:
		t.Text = r.text()
	case lens.Inv, lens.Dict:
		t.Kids = r.within(1)
	case lens.Swap, lens.Left, lens.Right:
		t.Kids = r.within(2)
	}
	return t
}

// wordOp is the op whose word a token is; false: there is none.
func wordOp(t lex.Token) (lens.Op, bool) {
	for op := lens.Copy; op <= lens.Norm; op++ {
		if t.Kind == lex.Word && t.Text == op.Word() {
			return op, true
		}
	}
	return lens.Name, false
}

// arg takes a term's expression, or a name in its place.
func (r *reader) arg(t *lens.Term) {
	if r.next().Kind == lex.Re {
		t.Re = r.expr()
	} else {
		t.Kids = []*lens.Term{r.use()}
	}
}
