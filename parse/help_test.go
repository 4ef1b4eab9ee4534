package parse

import (
	"fmt"
	"slices"
	"strings"
	"testing"

	"periscope/api"
	"periscope/lens"
	"periscope/lex"
	"periscope/re"
	"periscope/text"
)

// draw is numbers in an order that looks like none, the same each time.
type draw uint64

func (d *draw) below(n int) int {
	*d = *d*6364136223846793005 + 1442695040888963407
	return int(uint64(*d)>>33) % n
}

func pick[T any](d *draw, list ...T) T { return list[d.below(len(list))] }

// read is an expression that layer 4 can read.
func read(s string) *re.Re {
	r, e, at := text.Read(s)
	if e != api.OK {
		panic(fmt.Sprint(s, e, at))
	}
	return r
}

// grammar is that of P15.1, each { } a name of its own.
func grammar() map[string][][]string {
	out := map[string][][]string{}
	for name, row := range map[string]string{
		"program": "lets term End",
		"lets":    "/ let name = term in lets",
		"term":    "cat cats",
		"cats":    "/ | cat cats",
		"cat":     "seq seqs",
		"seqs":    "/ . seq seqs",
		"seq":     "star stars",
		"stars":   "/ ; star stars",
		"star":    "atom iters",
		"iters":   "/ * iters",
		"atom": "( term ) / name / expr / copy arg / key name arg / const arg text text / del arg text / ins text / swap ( term , term ) / inv ( term )" +
			" / dict ( term ) / left ( term , term ) / right ( term , term ) / keep arg / norm arg text",
		"arg": "expr / name",
	} {
		for _, way := range strings.Split(row, "/") {
			out[name] = append(out[name], strings.Fields(way))
		}
	}
	return out
}

// kind is what the grammar calls a token.
func kind(token string) string {
	switch {
	case token == "":
		return "End"
	case token[0] == '"':
		return "text"
	case token[0] == '/':
		return "expr"
	case lex.Name(token):
		return "name"
	}
	return token
}

// row is the grammar's words that must still come.
type row struct {
	word string
	rest *row
}

func (r *row) with(way []string) *row {
	for _, word := range slices.Backward(way) {
		r = &row{word, r}
	}
	return r
}

// stuck is the first token at which nothing of the grammar goes on; -1: there is none. All that may still
// come is kept.
func stuck(tokens []string) int {
	g := grammar()
	rows := []*row{{"program", nil}}
	for i, token := range tokens {
		var next []*row
		for len(rows) > 0 {
			r := rows[0]
			rows = rows[1:]
			if r == nil {
				continue
			}
			if ways, ok := g[r.word]; ok {
				for _, way := range ways {
					rows = append(rows, r.rest.with(way))
				}
			} else if r.word == kind(token) {
				next = append(next, r.rest)
			}
		}
		if len(next) == 0 {
			return i
		}
		rows = next
	}
	return -1
}

// isTerm tells whether a token that the grammar takes makes a term.
func isTerm(tokens []string, i int) bool {
	ahead := func(n int) string {
		if i < n {
			return ""
		}
		return tokens[i-n]
	}
	switch kind(tokens[i]) {
	case "name":
		return ahead(1) != "let" && ahead(1) != "key"
	case "expr":
		return !slices.Contains([]string{"copy", "const", "del", "keep", "norm"}, ahead(1)) && ahead(2) != "key"
	case "|", ".", ";", "*", "copy", "key", "const", "del", "ins", "swap", "inv", "dict", "left", "right", "keep", "norm":
		return true
	}
	return false
}

// faultOf is P15.2's words: the first error of tokens, and at which of them; great are the expressions
// that are too great, or nested too deep.
func faultOf(tokens []string, great ...string) (api.Errno, int) {
	end := stuck(tokens)
	open, terms, lets := 0, 0, 0
	for i, token := range tokens {
		if i == end {
			return api.ErrForm, i
		}
		switch token {
		case "(":
			open++
		case ")":
			open--
		case "let":
			lets++
		}
		if isTerm(tokens, i) {
			terms++
		}
		if open > 60 {
			return api.ErrDeep, i
		}
		if terms > 1000 || lets > 200 || slices.Contains(great, token) {
			return api.ErrMany, i
		}
	}
	return api.OK, 0
}

// writer puts a program together by the grammar's rows: its tokens, the last one empty, and the terms, each
// at the number of its token.
type writer struct {
	*draw
	tokens []string
	left   int // so many atoms are still to be written of several parts
	around int // up to so many parentheses stand around a term without need
	names  []string
	exprs  []string
}

func newWriter(seed, left int) *writer {
	d := draw(seed)
	return &writer{draw: &d, left: left, around: 2, names: []string{"a", "b", "x1", "_", "lets", strings.Repeat("z", 30)},
		exprs: []string{"/a/", "/(a|b)*c/", `/\//`, "/ a b /", `/"#/`, "/[^]/", "/()/", "/[]/", `/a\\/`, `/\(/`, "/a-b&c*/", "/.+/"}}
}

func (w *writer) put(tokens ...string) int {
	w.tokens = append(w.tokens, tokens...)
	return len(w.tokens) - len(tokens)
}

func (w *writer) program(lets int) *Program {
	p := &Program{}
	for range lets {
		name := pick(w.draw, w.names...)
		at := w.put("let", name, "=") + 1
		p.Lets = append(p.Lets, Let{Name: name, At: api.Pos(at), Term: w.row(0)})
		w.put("in")
	}
	p.Body = w.row(0)
	w.put("")
	return p
}

// row is of terms that hold together so closely: by |, ., ;, and *.
func (w *writer) row(level int) *lens.Term {
	if level == 4 {
		return w.atom()
	}
	t := w.row(level + 1)
	for w.left > 0 && w.below(4) == 0 {
		w.left--
		whole := &lens.Term{Op: []lens.Op{lens.Or, lens.Cat, lens.Seq, lens.Star}[level], At: api.Pos(w.put([]string{"|", ".", ";", "*"}[level])), Kids: []*lens.Term{t}}
		if level < 3 {
			whole.Kids = append(whole.Kids, w.row(level+1))
		}
		t = whole
	}
	return t
}

func (w *writer) atom() *lens.Term {
	kind := w.below(21)
	if w.left <= 0 {
		kind %= 14
	}
	w.left--
	switch kind {
	case 0, 1:
		return w.name()
	case 2, 3:
		s := pick(w.draw, w.exprs...)
		return &lens.Term{Op: lens.Re, At: api.Pos(w.put(s)), Re: read(s[1 : len(s)-1])}
	case 14, 15:
		n := w.below(w.around)
		w.put(slices.Repeat([]string{"("}, n)...)
		t := w.kids(&lens.Term{}, 1).Kids[0]
		w.put(slices.Repeat([]string{")"}, n)...)
		return t
	case 16:
		return w.kids(&lens.Term{Op: lens.Inv, At: api.Pos(w.put("inv"))}, 1)
	case 17:
		return w.kids(&lens.Term{Op: lens.Dict, At: api.Pos(w.put("dict"))}, 1)
	case 18:
		return w.kids(&lens.Term{Op: lens.Swap, At: api.Pos(w.put("swap"))}, 2)
	case 19:
		return w.kids(&lens.Term{Op: lens.Left, At: api.Pos(w.put("left"))}, 2)
	case 20:
		return w.kids(&lens.Term{Op: lens.Right, At: api.Pos(w.put("right"))}, 2)
	}
	return w.basic(kind)
}

// basic is a term of no terms.
func (w *writer) basic(kind int) *lens.Term {
	switch kind {
	case 4, 5:
		return w.arg(&lens.Term{Op: lens.Copy, At: api.Pos(w.put("copy"))})
	case 6:
		t := &lens.Term{Op: lens.Key, At: api.Pos(w.put("key")), Name: pick(w.draw, w.names...)}
		w.put(t.Name)
		return w.arg(t)
	case 7, 8:
		t := w.arg(&lens.Term{Op: lens.Const, At: api.Pos(w.put("const"))})
		t.Text = w.text()
		t.Back = w.text()
		return t
	case 9:
		t := w.arg(&lens.Term{Op: lens.Del, At: api.Pos(w.put("del"))})
		t.Back = w.text()
		return t
	case 10:
		return w.arg(&lens.Term{Op: lens.Keep, At: api.Pos(w.put("keep"))})
	case 11:
		t := w.arg(&lens.Term{Op: lens.Norm, At: api.Pos(w.put("norm"))})
		t.Text = w.text()
		return t
	}
	return &lens.Term{Op: lens.Ins, At: api.Pos(w.put("ins")), Text: w.text()}
}

func (w *writer) name() *lens.Term {
	name := pick(w.draw, w.names...)
	return &lens.Term{Op: lens.Name, At: api.Pos(w.put(name)), Name: name}
}

func (w *writer) arg(t *lens.Term) *lens.Term {
	if w.below(2) == 0 {
		t.Kids = []*lens.Term{w.name()}
		return t
	}
	s := pick(w.draw, w.exprs...)
	w.put(s)
	t.Re = read(s[1 : len(s)-1])
	return t
}

func (w *writer) text() string {
	s := pick(w.draw, "", "a", "copy", "let", "(", "a b", `"`, `\`, "#", "/x/", "\n", "\x00\xff")
	w.put(lens.Quote(s))
	return s
}

func (w *writer) kids(t *lens.Term, n int) *lens.Term {
	sign := "("
	for range n {
		w.put(sign)
		t.Kids = append(t.Kids, w.row(0))
		sign = ","
	}
	w.put(")")
	return t
}

// lay is a text of tokens, with blanks and remarks between, and where each one is.
func lay(d *draw, tokens []string) (string, []api.Pos) {
	var s []byte
	var at []api.Pos
	word := false // whether what is ahead goes on, if a Letter is behind it
	for _, token := range tokens {
		letter := token != "" && lex.Letter(token[0], false)
		for word && letter || d.below(4) == 0 {
			s = append(s, pick(d, " ", "\t", "\n", "\r", "  ", "#\n", "# let (\n")...)
			word = false
		}
		at = append(at, api.Pos(len(s)))
		s = append(s, token...)
		word = letter
	}
	return string(s), at
}

// settle lays each term of a program, which is at the number of its token, where that token is.
func settle(p *Program, at []api.Pos) {
	move := func(t *lens.Term) bool {
		t.At = at[t.At]
		return true
	}
	for i := range p.Lets {
		p.Lets[i].At = at[p.Lets[i].At]
		p.Lets[i].Term.Walk(move)
	}
	p.Body.Walk(move)
}

// turned is tokens of which some are gone, doubled, moved, or others.
func turned(d *draw, tokens []string) []string {
	tokens = slices.Clone(tokens[:len(tokens)-1])
	for range 1 + d.below(3) {
		i := d.below(len(tokens) + 1)
		other := pick(d, "(", ")", ",", ".", ";", "|", "*", "=", "let", "in", "copy", "key", "const", "del", "ins", "swap", "inv", "dict", "left", "right",
			"keep", "norm", "a", "b", "/a/", `"a"`, `"copy"`)
		switch rest := tokens[i:]; {
		case len(rest) == 0 || d.below(3) == 0:
			tokens = slices.Insert(tokens, i, other)
		case d.below(3) == 0:
			rest[0] = other
		case d.below(2) == 0:
			j := d.below(len(tokens))
			tokens[i], tokens[j] = tokens[j], tokens[i]
		default:
			tokens = slices.Delete(tokens, i, i+1)
		}
	}
	return append(tokens, "")
}

// dump is all of a term, with where its parts stand.
func dump(t *lens.Term) string {
	if t == nil {
		return "nil"
	}
	out := fmt.Sprintf("{%d@%d %q %q %q %q", t.Op, t.At, t.Name, t.Re.Key(), t.Text, t.Back)
	for _, k := range t.Kids {
		out += " " + dump(k)
	}
	return out + "}"
}

// dumpAll is all of a program, likewise.
func dumpAll(p *Program) string {
	if p == nil {
		return "no program"
	}
	out := ""
	for _, l := range p.Lets {
		out += fmt.Sprintf("%q@%d %s\n", l.Name, l.At, dump(l.Term))
	}
	return out + dump(p.Body)
}

// short is a text for the eye.
func short(s string) string {
	if len(s) > 200 {
		return s[:100] + " .. " + s[len(s)-90:]
	}
	return s
}

func wantProgram(t *testing.T, s string, want *Program) *Program {
	t.Helper()
	p, e, at := Read(s)
	if e != api.OK || at != 0 {
		t.Fatalf("%q: %d at %d", short(s), e, at)
	}
	if dumpAll(p) != dumpAll(want) {
		t.Fatalf("%q is\n%s\nnot\n%s", short(s), short(dumpAll(p)), short(dumpAll(want)))
	}
	return p
}

func wantError(t *testing.T, s string, e api.Errno, at int) {
	t.Helper()
	if p, f, x := Read(s); p != nil || f != e || x != api.Pos(at) {
		t.Errorf("%q: %d at %d, not %d at %d", short(s), f, x, e, at)
	}
}

func wantOK(t *testing.T, s string) {
	t.Helper()
	if p, e, at := Read(s); e != api.OK || at != 0 || p == nil || p.Body == nil {
		t.Errorf("%q: %d at %d", short(s), e, at)
	}
}
