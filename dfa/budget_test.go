package dfa

import (
	"math"
	"sync"
	"sync/atomic"
	"testing"

	"periscope/api"
)

func TestBudgetByHand(t *testing.T) {
	type take struct {
		n    int
		want api.Errno
		used int
	}
	for _, c := range []struct {
		grant int
		takes []take
	}{
		{3, []take{{1, api.OK, 1}, {2, api.OK, 3}, {1, api.ErrBudget, 3}, {0, api.OK, 3}, {1, api.ErrBudget, 3}}},
		{3, []take{{3, api.OK, 3}, {0, api.OK, 3}, {1, api.ErrBudget, 3}}},
		// More than are left: then none is left any more, though none was taken.
		{5, []take{{6, api.ErrBudget, 0}, {1, api.ErrBudget, 0}, {5, api.ErrBudget, 0}, {0, api.OK, 0}}},
		{5, []take{{2, api.OK, 2}, {4, api.ErrBudget, 2}, {3, api.ErrBudget, 2}, {1, api.ErrBudget, 2}, {0, api.OK, 2}}},
		// Below 0: nothing turns.
		{5, []take{{-1, api.ErrBudget, 0}, {math.MinInt, api.ErrBudget, 0}, {5, api.OK, 5}, {-5, api.ErrBudget, 5}, {1, api.ErrBudget, 5}}},
		{5, []take{{9, api.ErrBudget, 0}, {-9, api.ErrBudget, 0}, {1, api.ErrBudget, 0}}},
		{0, []take{{0, api.OK, 0}, {1, api.ErrBudget, 0}, {-1, api.ErrBudget, 0}, {0, api.OK, 0}}},
		{-1, []take{{0, api.OK, 0}, {1, api.ErrBudget, 0}, {0, api.OK, 0}}},
		{math.MinInt, []take{{0, api.OK, 0}, {math.MaxInt, api.ErrBudget, 0}, {1, api.ErrBudget, 0}}},
		{math.MaxInt, []take{{1, api.OK, 1}, {math.MaxInt - 1, api.OK, math.MaxInt}, {1, api.ErrBudget, math.MaxInt}, {0, api.OK, math.MaxInt}}},
		{math.MaxInt, []take{{1, api.OK, 1}, {math.MaxInt, api.ErrBudget, 1}, {math.MaxInt, api.ErrBudget, 1}, {1, api.ErrBudget, 1}}},
	} {
		b := Grant(c.grant)
		if b == nil || b.Used() != 0 {
			t.Fatalf("Grant %d", c.grant)
		}
		for i, x := range c.takes {
			if e := b.Take(x.n); e != x.want || b.Used() != x.used {
				t.Errorf("Grant %d, call %d, Take %d: %d, Used %d", c.grant, i, x.n, e, b.Used())
			}
		}
	}
}

func TestBudgetOfNil(t *testing.T) {
	var b *Budget
	for _, n := range []int{0, 1, -1, math.MaxInt} {
		if b.Take(n) != api.ErrBudget || b.Used() != 0 {
			t.Error("nil, Take", n)
		}
	}
	if b := new(Budget); b.Used() != 0 || b.Take(0) != api.OK || b.Take(1) != api.ErrBudget || b.Used() != 0 {
		t.Error("a budget that nobody granted")
	}
}

func TestBudget(t *testing.T) {
	d := draw(1)
	for range 3000 {
		left, used := d.below(30), 0
		b := Grant(left)
		for range 12 {
			n, want := d.below(12)-2, api.OK
			switch {
			case n < 0:
				want = api.ErrBudget
			case n > left:
				left, want = 0, api.ErrBudget
			default:
				left, used = left-n, used+n
			}
			if e := b.Take(n); e != want || b.Used() != used {
				t.Fatalf("Take %d: %d, not %d; Used %d, not %d", n, e, want, b.Used(), used)
			}
		}
	}
}

// Two budgets have nothing to do with each other.
func TestBudgetsAreApart(t *testing.T) {
	a, b := Grant(2), Grant(2)
	if a.Take(3) != api.ErrBudget || b.Take(2) != api.OK || a.Used() != 0 || b.Used() != 2 {
		t.Error(a.Used(), b.Used())
	}
}

// As many as there are can be taken by several, no more; and who is told that none is left sees all as used.
func TestBudgetOfSeveral(t *testing.T) {
	const granted = 20000
	b := Grant(granted)
	var taken atomic.Int64
	var all sync.WaitGroup
	for range 8 {
		all.Go(func() {
			for range granted / 4 {
				if b.Take(1) == api.OK {
					taken.Add(1)
				} else if b.Used() != granted {
					t.Error("none is left, and Used is", b.Used())
					return
				}
			}
		})
	}
	all.Wait()
	if taken.Load() != granted || b.Used() != granted {
		t.Error(taken.Load(), b.Used())
	}
}

// One that asks for too many ends it for all, at whatever time; what the others had by then is what is used.
func TestBudgetSpentAmongSeveral(t *testing.T) {
	for range 200 {
		b := Grant(1000)
		var taken atomic.Int64
		var all sync.WaitGroup
		for i := range 4 {
			all.Go(func() {
				for j := range 100 {
					if i == 0 && j == 50 {
						if b.Take(1001) != api.ErrBudget || b.Take(1) != api.ErrBudget {
							t.Error("more than were granted")
						}
					} else if b.Take(2) == api.OK {
						taken.Add(2)
					}
				}
			})
		}
		all.Wait()
		if int64(b.Used()) != taken.Load() || b.Take(1) != api.ErrBudget {
			t.Fatal(b.Used(), taken.Load())
		}
	}
}
