// Package set is layer 1: see shared/doc/01-set.md.
package set

import (
	"iter"
	"math/bits"
)

// Set is a set of bytes: byte b is in it if bit b%64 of word b/64 is 1.
type Set [4]uint64

// Of is the set of some bytes.
func Of(list ...byte) Set {
	var s Set
	for _, b := range list {
		s[b/64] |= 1 << (b % 64)
	}
	return s
}

// From is the bytes from one to another one.
func From(low, high byte) Set {
	var s Set
	// An int, since a byte would wrap round behind 255 and never end.
	for b := int(low); b <= int(high); b++ {
		s[b/64] |= 1 << (b % 64)
	}
	return s
}

// All is all bytes.
func All() Set { return Set{}.Not() }

// Has tells whether a byte is in a set.
func (s Set) Has(b byte) bool { return s[b/64]>>(b%64)&1 == 1 }

// And is what is in both.
func (s Set) And(t Set) Set {
	for i := range s {
		s[i] &= t[i]
	}
	return s
}

// Or is what is in one of both.
func (s Set) Or(t Set) Set {
	for i := range s {
		s[i] |= t[i]
	}
	return s
}

// Minus is what is in one, and not in another one.
func (s Set) Minus(t Set) Set {
	for i := range s {
		s[i] &^= t[i]
	}
	return s
}

// Not is what isn't in a set.
func (s Set) Not() Set {
	for i := range s {
		s[i] = ^s[i]
	}
	return s
}

// Empty tells whether nothing is in a set.
func (s Set) Empty() bool { return s == Set{} }

// Len is how many bytes are in a set.
func (s Set) Len() int {
	n := 0
	for _, w := range s {
		n += bits.OnesCount64(w)
	}
	return n
}

// Least is the least byte of a set; false: it is empty.
func (s Set) Least() (byte, bool) {
	for b := range s.Bytes() {
		return b, true
	}
	return 0, false
}

// Bytes goes through a set's bytes, in order.
func (s Set) Bytes() iter.Seq[byte] {
	return func(yield func(byte) bool) {
		for i, w := range s {
			// w & (w-1) is w without its lowest bit: only bits that are 1 cost a turn.
			for ; w != 0; w &= w - 1 {
				if !yield(byte(64*i + bits.TrailingZeros64(w))) {
					return
				}
			}
		}
	}
}

// Runs goes through a set's runs of bytes beside one another: each one's first, and last.
func (s Set) Runs() iter.Seq2[byte, byte] {
	return func(yield func(byte, byte) bool) {
		var first, last byte
		open := false
		for b := range s.Bytes() {
			if open && b-last == 1 {
				last = b
				continue
			}
			if open && !yield(first, last) {
				return
			}
			first, last, open = b, b, true
		}
		if open {
			yield(first, last)
		}
	}
}
