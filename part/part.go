// Package part is layer 2: see shared/doc/02-part.md.
package part

import (
	"cmp"
	"slices"

	"periscope/set"
)

// Refine is the parts into which sets cut all bytes: in the order of their least bytes.
func Refine(list ...set.Set) []set.Set {
	parts := []set.Set{set.All()}
	for _, s := range list {
		parts = cut(parts, s)
	}
	// A cut leaves what it splits side by side, whatever lies between them.
	slices.SortFunc(parts, byLeast)
	return parts
}

// cut splits each part into what a set has of it and what it hasn't.
func cut(parts []set.Set, s set.Set) []set.Set {
	var out []set.Set
	for _, p := range parts {
		for _, half := range [2]set.Set{p.And(s), p.Minus(s)} {
			if !half.Empty() {
				out = append(out, half)
			}
		}
	}
	return out
}

// byLeast compares two sets that aren't empty by their least bytes.
func byLeast(a, b set.Set) int {
	x, _ := a.Least()
	y, _ := b.Least()
	return cmp.Compare(x, y)
}

// Index is, of each byte, in which of the parts it is.
func Index(parts []set.Set) [256]uint8 {
	var at [256]uint8
	for i, p := range parts {
		for b := range p.Bytes() {
			at[b] = uint8(i)
		}
	}
	return at
}
