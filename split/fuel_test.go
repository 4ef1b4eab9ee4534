package split

import (
	"math"
	"testing"

	"periscope/api"
)

func TestFuelByHand(t *testing.T) {
	type burn struct {
		n    int
		want api.Errno
		used int
	}
	for _, c := range []struct {
		fill  int
		burns []burn
	}{
		{3, []burn{{1, api.OK, 1}, {2, api.OK, 3}, {1, api.ErrFuel, 3}, {0, api.OK, 3}, {1, api.ErrFuel, 3}}},
		{3, []burn{{3, api.OK, 3}, {0, api.OK, 3}, {1, api.ErrFuel, 3}}},
		// More than are left: then none is left any more, though none was burnt.
		{5, []burn{{6, api.ErrFuel, 0}, {1, api.ErrFuel, 0}, {5, api.ErrFuel, 0}, {0, api.OK, 0}}},
		{5, []burn{{2, api.OK, 2}, {4, api.ErrFuel, 2}, {3, api.ErrFuel, 2}, {1, api.ErrFuel, 2}, {0, api.OK, 2}}},
		// Below 0: likewise.
		{5, []burn{{-1, api.ErrFuel, 0}, {1, api.ErrFuel, 0}, {0, api.OK, 0}, {-1, api.ErrFuel, 0}}},
		{5, []burn{{2, api.OK, 2}, {-2, api.ErrFuel, 2}, {1, api.ErrFuel, 2}, {0, api.OK, 2}}},
		{5, []burn{{math.MinInt, api.ErrFuel, 0}, {1, api.ErrFuel, 0}}},
		{0, []burn{{0, api.OK, 0}, {1, api.ErrFuel, 0}, {-1, api.ErrFuel, 0}, {0, api.OK, 0}}},
		{-1, []burn{{0, api.OK, 0}, {1, api.ErrFuel, 0}, {0, api.OK, 0}}},
		{math.MinInt, []burn{{0, api.OK, 0}, {math.MaxInt, api.ErrFuel, 0}, {1, api.ErrFuel, 0}}},
		{math.MaxInt, []burn{{1, api.OK, 1}, {math.MaxInt - 1, api.OK, math.MaxInt}, {1, api.ErrFuel, math.MaxInt}, {0, api.OK, math.MaxInt}}},
		{math.MaxInt, []burn{{1, api.OK, 1}, {math.MaxInt, api.ErrFuel, 1}, {1, api.ErrFuel, 1}}},
	} {
		f := Fill(c.fill)
		if f == nil || f.Used() != 0 {
			t.Fatalf("Fill %d", c.fill)
		}
		for i, b := range c.burns {
			if e := f.Burn(b.n); e != b.want || f.Used() != b.used {
				t.Errorf("Fill %d, call %d, Burn %d: %d, Used %d", c.fill, i, b.n, e, f.Used())
			}
		}
	}
}

func TestFuelOfNil(t *testing.T) {
	var f *Fuel
	for _, n := range []int{0, 1, -1, math.MaxInt, math.MinInt} {
		if f.Burn(n) != api.ErrFuel || f.Used() != 0 {
			t.Error("nil, Burn", n)
		}
	}
	if f := new(Fuel); f.Used() != 0 || f.Burn(0) != api.OK || f.Burn(1) != api.ErrFuel || f.Used() != 0 {
		t.Error("fuel that nobody filled")
	}
}

func TestFuel(t *testing.T) {
	d := draw(1)
	for range 3000 {
		left, used := d.below(40), 0
		f := Fill(left)
		for range 12 {
			n, want := d.below(12)-1, api.OK
			if n < 0 || n > left {
				left, want = 0, api.ErrFuel
			} else {
				left, used = left-n, used+n
			}
			if e := f.Burn(n); e != want || f.Used() != used {
				t.Fatalf("Burn %d: %d, not %d; Used %d, not %d", n, e, want, f.Used(), used)
			}
		}
	}
}

// What is burnt of one isn't burnt of another one.
func TestFuelsAreApart(t *testing.T) {
	f, g := Fill(2), Fill(2)
	if f.Burn(3) != api.ErrFuel || g.Burn(2) != api.OK || f.Used() != 0 || g.Used() != 2 {
		t.Error(f.Used(), g.Used())
	}
}
