package split

import "periscope/api"

// Fuel is how many steps may be done.
type Fuel struct {
	left, used int
}

// Fill is so many steps.
func Fill(n int) *Fuel { return &Fuel{left: max(n, 0)} }

// Burn does steps: ErrFuel, if there aren't so many left.
func (f *Fuel) Burn(n int) api.Errno {
	if f == nil {
		return api.ErrFuel
	}
	if n < 0 || n > f.left {
		f.left = 0
		return api.ErrFuel
	}
	f.left -= n
	f.used += n
	return api.OK
}

// Used is how many steps were done.
func (f *Fuel) Used() int {
	if f == nil {
		return 0
	}
	return f.used
}
