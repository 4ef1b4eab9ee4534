package re

import (
	"bytes"
	"cmp"
	"slices"

	"periscope/set"
)

// keyEnd stands behind the kids of a key, and behind a class's runs. It is below whatever else may stand
// there, so that of two lists that begin alike the shorter one is ahead, as slices.CompareFunc has it.
const keyEnd = 0

// Key is a text by which expressions are told apart.
func (r *Re) Key() string { return string(r.appendKey(nil)) }

func (r *Re) appendKey(out []byte) []byte {
	if r == nil {
		return out
	}
	out = append(out, keyEnd+1+byte(r.Op))
	if r.Op == Class {
		out = appendRuns(out, r.Set)
	}
	for _, k := range r.Kids {
		out = k.appendKey(out)
	}
	return append(out, keyEnd)
}

// appendRuns writes a set's runs: most sets of expressions have few. Only the first one may begin with 0.
func appendRuns(out []byte, s set.Set) []byte {
	for first, last := range s.Runs() {
		out = append(out, first, last)
	}
	return out
}

// Same tells whether two expressions are one.
func (r *Re) Same(o *Re) bool {
	if r == nil || o == nil || r.self != r || o.self != o {
		return r.Key() == o.Key()
	}
	return r.size == o.size && r.compare(o) == 0
}

// compare is how the keys of two expressions that this package made compare, found without writing them
// down: they are as long as the expressions are great, and differ near their beginnings mostly.
func (r *Re) compare(o *Re) int {
	if r == o {
		return 0
	}
	if r.Op != o.Op {
		return cmp.Compare(r.Op, o.Op)
	}
	if r.Set != o.Set {
		return compareSets(r.Set, o.Set)
	}
	return slices.CompareFunc(r.Kids, o.Kids, (*Re).compare)
}

// compareSets is how what appendRuns writes of two sets compares.
func compareSets(s, t set.Set) int {
	var x, y [16]byte // few runs, no new memory
	return bytes.Compare(appendRuns(x[:0], s), appendRuns(y[:0], t))
}
