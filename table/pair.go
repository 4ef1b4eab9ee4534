package table

import (
	"slices"

	"periscope/api"
	"periscope/dfa"
	"periscope/part"
	"periscope/re"
	"periscope/set"
	"periscope/walk"
)

// pair is a state of one Table, and one of another one.
type pair struct{ p, q int }

// both is two Tables that are read at once.
type both struct {
	x, y  Table
	parts []set.Set
	inX   []int // of each of the parts that one of x's in which it lies
	inY   []int // and that one of y's
}

func together(x, y Table) both {
	t := both{x: x, y: y, parts: part.Refine(slices.Concat(x.Parts, y.Parts)...)}
	atX, atY := part.Index(x.Parts), part.Index(y.Parts)
	for _, least := range leasts(t.parts) {
		t.inX = append(t.inX, int(atX[least]))
		t.inY = append(t.inY, int(atY[least]))
	}
	return t
}

// row is where the parts lead to from a pair.
func (t both) row(from pair) []pair {
	out := make([]pair, len(t.parts))
	for i := range t.parts {
		out[i] = pair{t.x.Next[from.p][t.inX[i]], t.y.Next[from.q][t.inY[i]]}
	}
	return out
}

// Pair is the Table of the texts of both, of one of them, or of the first and not of the second.
func Pair(x, y Table, op re.Op, b *dfa.Budget) (Table, api.Errno) {
	if !x.Valid() || !y.Valid() || op != re.And && op != re.Or && op != re.Minus {
		return Table{}, api.ErrArg
	}
	t := together(x, y)
	pairs, next, e := walk.From(pair{}, t.row, b)
	if e != api.OK {
		return Table{}, e
	}
	out := Table{Parts: t.parts, Next: next}
	for _, at := range pairs {
		out.Yes = append(out.Yes, joined(x.Yes[at.p], y.Yes[at.q], op))
	}
	return out, api.OK
}

// joined is whether a text is one of a Pair's, by whether it is one of each.
func joined(x, y bool, op re.Op) bool {
	switch op {
	case re.And:
		return x && y
	case re.Or:
		return x || y
	}
	return x && !y
}

// way is how a pair was first met: from which one, and by which byte.
type way struct {
	at   pair
	from int
	by   byte
}

// Unlike is the least text that one of two Tables has and the other one hasn't; false: there is none.
func Unlike(x, y Table) (string, bool) {
	if !x.Valid() || !y.Valid() {
		return "", false
	}
	t := together(x, y)
	bytes := leasts(t.parts)
	// States of both are tied, if a pair of them was met, or if pairs that were met lead from one to the other. A pair
	// that is tied already needn't be gone on from: a text that tells it apart tells one of those pairs apart, and it
	// was met by a lesser text. So no more pairs are gone on from than there are states.
	tied := apart(len(x.Yes) + len(y.Yes))
	var ways []way
	meet := func(w way) {
		if tied.tie(w.at.p, len(x.Yes)+w.at.q) {
			ways = append(ways, w)
		}
	}
	meet(way{})
	for i := 0; i < len(ways); i++ {
		at := ways[i].at
		if x.Yes[at.p] != y.Yes[at.q] {
			return spelt(ways, i), true
		}
		for j, to := range t.row(at) {
			meet(way{to, i, bytes[j]})
		}
	}
	return "", false
}

// spelt is the text by which a pair was first met.
func spelt(ways []way, i int) string {
	var out []byte
	for ; i > 0; i = ways[i].from {
		out = append(out, ways[i].by)
	}
	slices.Reverse(out)
	return string(out)
}

// ties is things of which some are tied: each knows another one to which it is tied, or, as the last one, itself.
type ties []int

func apart(n int) ties {
	t := make(ties, n)
	for i := range n {
		t[i] = i
	}
	return t
}

// tie ties two, and tells whether they weren't yet.
func (t ties) tie(a, b int) bool {
	a, b = t.last(a), t.last(b)
	t[a] = b
	return a != b
}

// last is the one that all know that are tied to this one. The way to it is cut short for those who ask next.
func (t ties) last(i int) int {
	for t[i] != i {
		t[i] = t[t[i]]
		i = t[i]
	}
	return i
}
