package lens

import (
	"fmt"
	"strings"

	"periscope/api"
	"periscope/re"
	"periscope/set"
	"periscope/text"
)

// draw is numbers in an order that looks like none, the same each time.
type draw uint64

func (d *draw) below(n int) int {
	*d = *d*6364136223846793005 + 1442695040888963407
	return int(uint64(*d)>>33) % n
}

func pick[T any](d *draw, list ...T) T { return list[d.below(len(list))] }

// The ops as P10.1 groups them.
var (
	pairs    = []Op{Or, Cat, Seq, Swap, Left, Right}
	singles  = []Op{Star, Inv, Dict}
	withArgs = []Op{Copy, Key, Const, Del, Keep, Norm}
)

func someText(d *draw) string {
	return pick(d, "", "a", "b", "a b", `"`, `\`, "((", ")", "/", "\n\t\r", "\x00\xff", "a|b*")
}

func someName(d *draw) string { return pick(d, "a", "b", "x1", "_", "copy") }

func someRe(d *draw) *re.Re {
	a, b := re.Word("a"), re.Word("b")
	return pick(d, nil, re.Nothing(), re.Empty(), a, re.Word(`"(/)"`), re.One(set.All()), re.Many(re.Any(re.Word("ab"), re.Empty())),
		re.Then(re.But(re.Many(a), a), b), re.Many(re.Then(re.Many(re.Then(a, b)), re.Any(re.Empty(), re.Word("()")))))
}

// leaf is a term of a name or an expression.
func leaf(d *draw) *Term {
	if d.below(2) == 0 {
		return &Term{Op: Name, Name: someName(d), At: api.Pos(d.below(9))}
	}
	return &Term{Op: Re, Re: someRe(d), At: api.Pos(d.below(9))}
}

// someTerm is a term made as P10.1 says, of at most so many parts within one another.
func someTerm(d *draw, deep int) *Term {
	kind := d.below(9)
	if deep == 0 {
		kind %= 4
	}
	t := &Term{At: api.Pos(d.below(9))}
	switch kind {
	case 0:
		return leaf(d)
	case 1, 2:
		t.Op = pick(d, withArgs...)
		if d.below(2) == 0 {
			t.Kids = []*Term{leaf(d)}
		} else {
			t.Re = someRe(d)
		}
		fillTexts(d, t)
	case 3:
		t.Op, t.Text = Ins, someText(d)
	case 4, 5:
		t.Op, t.Kids = pick(d, singles...), []*Term{someTerm(d, deep-1)}
	default:
		t.Op, t.Kids = pick(d, pairs...), []*Term{someTerm(d, deep-1), someTerm(d, deep-1)}
	}
	return t
}

func fillTexts(d *draw, t *Term) {
	switch t.Op {
	case Key:
		t.Name = someName(d)
	case Const:
		t.Text, t.Back = someText(d), someText(d)
	case Del:
		t.Back = someText(d)
	case Norm:
		t.Text = someText(d)
	}
}

// wild is a term of any op, of any number of kids, nil among them, with anything in its fields.
func wild(d *draw, deep int) *Term {
	if d.below(8) == 0 {
		return nil
	}
	t := &Term{Op: Op(d.below(22) - 2), Name: someName(d), Re: someRe(d), Text: someText(d), Back: someText(d)}
	if deep > 0 {
		for range d.below(4) {
			t.Kids = append(t.Kids, wild(d, deep-1))
		}
	}
	return t
}

// copied is a term of the same parts in new memory, each standing elsewhere.
func copied(t *Term) *Term {
	if t == nil {
		return nil
	}
	c := *t
	c.At += 1000
	c.Kids = nil
	for _, k := range t.Kids {
		c.Kids = append(c.Kids, copied(k))
	}
	return &c
}

// dump is all of a term that Same asks of, as a text.
func dump(t *Term) string {
	if t == nil {
		return "nil"
	}
	out := fmt.Sprintf("{%d %q %q %q %q", t.Op, t.Name, t.Re.Key(), t.Text, t.Back)
	for _, k := range t.Kids {
		out += " " + dump(k)
	}
	return out + "}"
}

// inOrder is a term and the parts of it, each ahead of its own.
func inOrder(t *Term) []*Term {
	if t == nil {
		return nil
	}
	list := []*Term{t}
	for _, k := range t.Kids {
		list = append(list, inOrder(k)...)
	}
	return list
}

// quoted is P10.2's words for Quote, with all bytes that layer 4 writes in a way of their own listed.
func quoted(s string) string {
	out := `"`
	for i := range len(s) {
		switch b := s[i]; {
		case b == 10:
			out += `\n`
		case b == 9:
			out += `\t`
		case b < 0x20 || b >= 0x7f:
			out += fmt.Sprintf(`\x%02x`, b)
		case strings.Contains(` ()[]|&-*+?.\^/"#`, s[i:i+1]):
			out += `\` + s[i:i+1]
		default:
			out += s[i : i+1]
		}
	}
	return out + `"`
}

// written is P10.2's words for String, of a term made as P10.1 says.
func written(t *Term) string {
	expr := "/" + text.Of(t.Re) + "/"
	arg := expr
	if len(t.Kids) > 0 {
		arg = written(t.Kids[0])
	}
	switch t.Op {
	case Name:
		return t.Name
	case Re:
		return expr
	case Copy:
		return "copy " + arg
	case Keep:
		return "keep " + arg
	case Key:
		return "key " + t.Name + " " + arg
	case Const:
		return "const " + arg + " " + quoted(t.Text) + " " + quoted(t.Back)
	case Del:
		return "del " + arg + " " + quoted(t.Back)
	case Norm:
		return "norm " + arg + " " + quoted(t.Text)
	case Ins:
		return "ins " + quoted(t.Text)
	case Or:
		return within(t, 0, 0) + " | " + within(t, 1, 1)
	case Cat:
		return within(t, 0, 1) + " . " + within(t, 1, 2)
	case Seq:
		return within(t, 0, 2) + " ; " + within(t, 1, 3)
	case Star:
		return within(t, 0, 3) + "*"
	case Inv:
		return "inv(" + arg + ")"
	case Dict:
		return "dict(" + arg + ")"
	}
	word := map[Op]string{Swap: "swap", Left: "left", Right: "right"}[t.Op]
	return word + "(" + arg + ", " + written(t.Kids[1]) + ")"
}

// within is a kid, in parentheses, if it holds less closely than it must: 0 is Or, 4 the others.
func within(t *Term, i, must int) string {
	k := t.Kids[i]
	holds, ok := map[Op]int{Or: 0, Cat: 1, Seq: 2, Star: 3}[k.Op]
	if ok && holds < must {
		return "(" + written(k) + ")"
	}
	return written(k)
}

// nested is how many parentheses of what is written of a term lie in one another, those within expressions
// and quoted texts passed over.
func nested(s string) int {
	open, most := 0, 0
	var end byte // of what is passed over
	for i := 0; i < len(s); i++ {
		switch b := s[i]; {
		case end != 0 && b == '\\':
			i++
		case end != 0:
			if b == end {
				end = 0
			}
		case b == '"' || b == '/':
			end = b
		case b == '(':
			open++
			most = max(most, open)
		case b == ')':
			open--
		}
	}
	return most
}
