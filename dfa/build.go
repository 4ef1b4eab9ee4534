package dfa

import (
	"periscope/api"
	"periscope/deriv"
	"periscope/part"
	"periscope/re"
)

// maxSize is how great the expression of a state may be.
const maxSize = 20 * api.MaxNodes

// Build is the states of an expression: of each expression that stands behind bytes one.
func Build(r *re.Re, b *Budget) (*Dfa, api.Errno) {
	var states []*re.Re
	known := map[string]int{}
	// find is the state of an expression, a new one if there is none yet.
	find := func(x *re.Re) (int, api.Errno) {
		// No state is so great, so this one is new. Its key isn't asked for: an expression whose parts are used
		// again and again may be far greater than the memory it takes.
		if x.Size() > maxSize {
			b.Take(1)
			return 0, api.ErrBudget
		}
		key := x.Key()
		if q, ok := known[key]; ok {
			return q, api.OK
		}
		known[key] = len(states)
		states = append(states, x)
		return known[key], b.Take(1)
	}
	r = settled(r)
	if _, e := find(r); e != api.OK {
		return nil, e
	}
	d := stateless(r)
	for q := 0; q < len(states); q++ {
		row, e := d.row(states[q], find)
		if e != api.OK {
			return nil, e
		}
		d.next = append(d.next, row)
		d.yes = append(d.yes, states[q].Null())
		// Its key is enough from here on; many great expressions at a time would be much memory.
		states[q] = nil
	}
	return d, api.OK
}

// settled is an expression in the settled form, nil too: But with nothing to take away makes just that of it.
func settled(r *re.Re) *re.Re { return re.But(r, nil) }

// stateless is a Dfa of an expression's heads, without states so far.
func stateless(r *re.Re) *Dfa {
	parts := part.Refine(deriv.Sets(r)...)
	d := &Dfa{head: part.Index(parts)}
	for _, p := range parts {
		least, _ := p.Least()
		d.heads = append(d.heads, least)
	}
	return d
}

// row is where the heads lead to from the state of an expression. By is asked for once for each part of bytes of
// which it is the same: most expressions tell far fewer bytes apart than there are heads.
func (d *Dfa) row(x *re.Re, find func(*re.Re) (int, api.Errno)) ([]int, api.Errno) {
	parts := deriv.Parts(x)
	at := part.Index(parts)
	ends := make([]int, len(parts))
	for i := range ends {
		ends[i] = -1
	}
	row := make([]int, len(d.heads))
	for i, h := range d.heads {
		end := &ends[at[h]]
		if *end < 0 {
			q, e := find(deriv.By(x, h))
			if e != api.OK {
				return nil, e
			}
			*end = q
		}
		row[i] = *end
	}
	return row, api.OK
}
