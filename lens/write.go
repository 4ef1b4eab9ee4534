package lens

import (
	"periscope/re"
	"periscope/text"
)

// Quote is a text as it is written.
func Quote(s string) string { return string(appendQuote(nil, s)) }

func appendQuote(out []byte, s string) []byte {
	out = append(out, '"')
	for i := range len(s) {
		out = append(out, text.Byte(s[i])...)
	}
	return append(out, '"')
}

// String is a term as it is written.
func (t *Term) String() string { return string(t.appendTo(nil)) }

func (t *Term) appendTo(out []byte) []byte {
	if t == nil || len(t.Kids) < t.Op.kids() {
		return append(out, "()"...)
	}
	switch t.Op {
	case Name:
		return append(out, t.Name...)
	case Re:
		return appendRe(out, t.Re)
	case Copy, Key, Const, Del, Ins, Keep, Norm:
		return t.appendParts(append(out, t.Op.Word()...))
	case Or:
		return t.appendKids(out, " | ")
	case Cat:
		return t.appendKids(out, " . ")
	case Seq:
		return t.appendKids(out, " ; ")
	case Star:
		return append(t.appendKid(out, 0), '*')
	}
	out = append(append(out, t.Op.Word()...), '(')
	return append(t.appendKids(out, ", "), ')')
}

// kids is how many kids a term of an op must have, beside one that stands in the place of its expression.
func (o Op) kids() int {
	switch o {
	case Or, Cat, Seq, Swap, Left, Right:
		return 2
	case Star, Inv, Dict:
		return 1
	}
	return 0
}

// appendParts writes what stands behind a word without parentheses.
func (t *Term) appendParts(out []byte) []byte {
	if t.Op == Key {
		out = append(append(out, ' '), t.Name...)
	}
	if t.Op != Ins {
		out = t.appendArgument(append(out, ' '))
	}
	switch t.Op {
	case Const, Ins, Norm:
		out = appendQuote(append(out, ' '), t.Text)
	}
	switch t.Op {
	case Const, Del:
		out = appendQuote(append(out, ' '), t.Back)
	}
	return out
}

func (t *Term) appendArgument(out []byte) []byte {
	if len(t.Kids) > 0 {
		return t.Kids[0].appendTo(out)
	}
	return appendRe(out, t.Re)
}

func appendRe(out []byte, r *re.Re) []byte {
	out = append(append(out, '/'), text.Of(r)...)
	return append(out, '/')
}

func (t *Term) appendKids(out []byte, between string) []byte {
	for i := range t.Kids {
		if i > 0 {
			out = append(out, between...)
		}
		out = t.appendKid(out, i)
	}
	return out
}

func (t *Term) appendKid(out []byte, i int) []byte {
	k := t.Kids[i]
	if k.hold() >= t.need(i) {
		return k.appendTo(out)
	}
	return append(k.appendTo(append(out, '(')), ')')
}

// The ways in which what is written of a term holds together, from the least close one on.
const (
	holdOr = iota
	holdCat
	holdSeq
	holdStar
	holdOther
)

// hold is how closely what is written of a term holds together.
func (t *Term) hold() int {
	if t == nil {
		return holdOther
	}
	switch t.Op {
	case Or:
		return holdOr
	case Cat:
		return holdCat
	case Seq:
		return holdSeq
	case Star:
		return holdStar
	}
	return holdOther
}

// need is how closely kid i of a term must hold to stand without parentheses of its own. Rows are read from
// the left on, so the first kid of one may be such a row again.
func (t *Term) need(i int) int {
	switch t.Op {
	case Or, Cat, Seq:
		return t.hold() + min(i, 1)
	case Star:
		return holdStar
	}
	return holdOr
}

// Nest is how many of the parentheses of a term's String lie in one another at most.
func (t *Term) Nest() int {
	if t == nil {
		return 0
	}
	most := 0
	for i, k := range t.Kids {
		n := k.Nest()
		if t.encloses() || k.hold() < t.need(i) {
			n++
		}
		most = max(most, n)
	}
	return most
}

// encloses tells whether a term's kids stand in parentheses behind its word.
func (t *Term) encloses() bool { return t.Op.kids() > 0 && t.Op.Word() != "" }
