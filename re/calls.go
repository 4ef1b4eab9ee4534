package re

import (
	"slices"

	"periscope/set"
)

// Nothing is the expression of no text.
func Nothing() *Re { return made(None, set.Set{}) }

// Empty is the expression of the text of no bytes.
func Empty() *Re { return made(Eps, set.Set{}) }

// One is the expression of one byte of a set.
func One(s set.Set) *Re {
	if s.Empty() {
		return Nothing()
	}
	return made(Class, s)
}

// Word is the expression of one text.
func Word(w string) *Re {
	kids := make([]*Re, len(w))
	for i := range kids {
		kids[i] = One(set.Of(w[i]))
	}
	return Then(kids...)
}

// Then is expressions one behind the other.
func Then(list ...*Re) *Re {
	kids := make([]*Re, 0, len(list))
	for _, r := range list {
		switch r = settled(r); r.Op {
		case None:
			return r
		case Eps:
		case Cat:
			kids = append(kids, r.Kids...)
		default:
			kids = append(kids, r)
		}
	}
	if len(kids) == 0 {
		return Empty()
	}
	return join(Cat, kids)
}

// Any is the expression of the texts of one of them.
func Any(list ...*Re) *Re {
	list = flat(Or, list)
	kids := make([]*Re, 0, len(list))
	var class set.Set
	for _, r := range list {
		switch r.Op {
		case None:
		case Class:
			class = class.Or(r.Set)
		default:
			kids = append(kids, r)
		}
	}
	if !class.Empty() {
		kids = append(kids, One(class))
	}
	if len(kids) == 0 {
		return Nothing()
	}
	return join(Or, inOrder(kids))
}

// Both is the expression of the texts of all of them; of none all texts.
func Both(list ...*Re) *Re {
	list = flat(And, list)
	kids := make([]*Re, 0, len(list))
	class, met := set.All(), false
	for _, r := range list {
		switch r.Op {
		case None:
			return r
		case Class:
			class, met = class.And(r.Set), true
		default:
			kids = append(kids, r)
		}
	}
	if class.Empty() {
		return Nothing()
	}
	if met {
		kids = append(kids, One(class))
	}
	if len(kids) == 0 {
		return Many(One(set.All()))
	}
	return join(And, inOrder(kids))
}

// Many is an expression as often as one likes.
func Many(r *Re) *Re {
	r = settled(r)
	switch r.Op {
	case None, Eps:
		return Empty()
	case Star:
		return r
	}
	return made(Star, set.Set{}, r)
}

// But is the expression of the texts of one that aren't of another one.
func But(a, b *Re) *Re {
	a, b = settled(a), settled(b)
	switch {
	case a.Op == None || b.Op == None:
		return a
	case a.Op == Class && b.Op == Class:
		return One(a.Set.Minus(b.Set))
	case a.Same(b):
		return Nothing()
	}
	return made(Minus, set.Set{}, a, b)
}

// flat is a list, settled, with the kids of those of an Op in their place. It is new memory.
func flat(op Op, list []*Re) []*Re {
	out := make([]*Re, 0, len(list))
	for _, r := range list {
		if r = settled(r); r.Op == op {
			out = append(out, r.Kids...)
		} else {
			out = append(out, r)
		}
	}
	return out
}

// inOrder puts a list in the order of the keys, each once.
func inOrder(list []*Re) []*Re {
	slices.SortFunc(list, (*Re).compare)
	return slices.CompactFunc(list, (*Re).Same)
}

// join is an expression of some kids, but one kid is itself.
func join(op Op, kids []*Re) *Re {
	if len(kids) == 1 {
		return kids[0]
	}
	return made(op, set.Set{}, kids...)
}
