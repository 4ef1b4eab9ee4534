package nfa

import (
	"iter"
	"math/bits"

	"periscope/api"
)

// crowd is some of an Nfa's states: q is one, if bit q modulo 64 of word q over 64 is 1. It is an array, so that it can
// be known by a map.
type crowd [(api.MaxStates + 63) / 64]uint64

// add adds a state, and tells whether it wasn't there yet.
func (c *crowd) add(q int) bool {
	word, bit := &c[q/64], uint64(1)<<(q%64)
	if *word&bit != 0 {
		return false
	}
	*word |= bit
	return true
}

// all goes through them, in order.
func (c crowd) all() iter.Seq[int] {
	return func(yield func(int) bool) {
		for i, w := range c {
			// w & (w-1) is w without its lowest bit.
			for ; w != 0; w &= w - 1 {
				if !yield(64*i + bits.TrailingZeros64(w)) {
					return
				}
			}
		}
	}
}
