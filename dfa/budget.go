package dfa

import (
	"sync/atomic"

	"periscope/api"
)

// Budget is how many states may be made.
type Budget struct {
	granted int64
	// How many were taken; the complement of that, once more were asked for than were left. It is one number,
	// since of two that several goroutines change, one could be seen ahead of the other.
	taken atomic.Int64
}

// Grant is a budget of so many states.
func Grant(n int) *Budget { return &Budget{granted: int64(max(n, 0))} }

// Take takes states: ErrBudget, if there aren't so many left.
func (b *Budget) Take(n int) api.Errno {
	if b == nil || n < 0 {
		return api.ErrBudget
	}
	for {
		now := b.taken.Load()
		// The swap fails only where another goroutine has taken in between.
		if next, e := b.after(now, int64(n)); b.taken.CompareAndSwap(now, next) {
			return e
		}
	}
}

// after is what taken is when n more states were asked for, and what is told of that.
func (b *Budget) after(taken, n int64) (int64, api.Errno) {
	switch {
	case n == 0:
		return taken, api.OK
	case taken < 0:
		return taken, api.ErrBudget
	case n > b.granted-taken:
		return ^taken, api.ErrBudget
	}
	return taken + n, api.OK
}

// Used is how many states were taken.
func (b *Budget) Used() int {
	if b == nil {
		return 0
	}
	taken := b.taken.Load()
	if taken < 0 {
		taken = ^taken
	}
	return int(taken)
}
