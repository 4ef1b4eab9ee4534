package ambig

import "periscope/dfa"

// kinds parts all bytes.
type kinds struct {
	of    [256]int
	heads []byte // of each kind the least byte, in order
}

// heads is the least byte of each kind of bytes that lead to the same from all states of both. The Heads of the two
// aren't enough: of [ac] and of [bc] they are a and b, beside 0, but c alone is in both sets.
func heads(x, y *dfa.Dfa) []byte {
	k := kinds{heads: []byte{0}}
	for _, d := range []*dfa.Dfa{x, y} {
		for q := range d.Len() {
			if k.mixed(d, q) {
				k = k.parted(d, q)
			}
		}
	}
	return k.heads
}

// mixed tells whether bytes of one kind lead to several states. There are at most 256 kinds, so of most states they
// don't: it is asked for ahead of parting them, since that is much slower.
func (k *kinds) mixed(d *dfa.Dfa, q int) bool {
	for b, n := range k.of {
		if d.Step(q, byte(b)) != d.Step(q, k.heads[n]) {
			return true
		}
	}
	return false
}

// parted is kinds whose bytes lead to one state each.
func (k *kinds) parted(d *dfa.Dfa, q int) kinds {
	type pair struct{ kind, to int }
	var out kinds
	known := map[pair]int{}
	for b, n := range k.of {
		p := pair{n, d.Step(q, byte(b))}
		if _, ok := known[p]; !ok {
			known[p] = len(out.heads)
			out.heads = append(out.heads, byte(b))
		}
		out.of[b] = known[p]
	}
	return out
}
