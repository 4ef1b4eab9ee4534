package ambig

import (
	"slices"

	"periscope/api"
	"periscope/dfa"
)

// How far two ways of reading one text have got.
const (
	whole  = iota // neither is split yet: they are one
	halved        // the one that is split first is in the second expression, the other one still in the first
	done          // both are in the second one
)

// place is where two ways are when they have read the same bytes: of whole, the state of the first expression; of halved,
// that of the first one and that of the second; of done, both of the second, the lower one ahead, since from there on
// it doesn't matter which way is which.
type place struct {
	stage int
	p, q  int
}

// met is how a place was met first: from which one, and by which byte.
type met struct {
	at   place
	from int
	by   byte
}

// search is the places that were met.
type search struct {
	x, y   *dfa.Dfa
	budget *dfa.Budget
	known  map[place]struct{}
	list   []met
}

// run looks for the place of the least text at which both ways can end; -1: there is none. A text may lead to several
// places, so all that it leads to first are gone on from together, head by head: only so the least texts come first.
func (s *search) run(heads []byte) (int, api.Errno) {
	if e := s.meet(met{}); e != api.OK {
		return -1, e
	}
	first, lasts := 0, []int{len(s.list)}
	for i := 0; i < len(lasts); i++ {
		for _, h := range heads {
			before := len(s.list)
			if e := s.goOn(first, lasts[i], h); e != api.OK {
				return -1, e
			}
			if n := slices.IndexFunc(s.list[before:], s.ends); n >= 0 {
				return before + n, api.OK
			}
			if len(s.list) > before {
				lasts = append(lasts, len(s.list))
			}
		}
		first = lasts[i]
	}
	return -1, api.OK
}

// goOn meets what a byte leads to from some places.
func (s *search) goOn(first, last int, by byte) api.Errno {
	for i := first; i < last; i++ {
		at := s.list[i].at
		if e := s.meet(met{s.stay(at, by), i, by}); e != api.OK {
			return e
		}
		if !s.splits(at) {
			continue
		}
		if e := s.meet(met{s.split(at, by), i, by}); e != api.OK {
			return e
		}
	}
	return api.OK
}

// meet takes a place, if it is new and both ways can still come to an end from there.
func (s *search) meet(m met) api.Errno {
	if _, ok := s.known[m.at]; ok || !s.live(m.at) {
		return api.OK
	}
	s.known[m.at] = struct{}{}
	s.list = append(s.list, m)
	return s.budget.Take(1)
}

// live tells whether each way alone can come to an end. Of whole, q is the state where the second expression begins.
func (s *search) live(at place) bool {
	if at.stage == done {
		return s.y.Live(at.p) && s.y.Live(at.q)
	}
	return s.x.Live(at.p) && s.y.Live(at.q)
}

// stay is where a byte leads to, if no way is split ahead of it.
func (s *search) stay(at place, by byte) place {
	switch at.stage {
	case whole:
		return place{whole, s.x.Step(at.p, by), 0}
	case halved:
		return place{halved, s.x.Step(at.p, by), s.y.Step(at.q, by)}
	}
	return ordered(s.y.Step(at.p, by), s.y.Step(at.q, by))
}

// splits tells whether a way can be split at a place.
func (s *search) splits(at place) bool { return at.stage != done && s.x.Yes(at.p) }

// split is where a byte leads to, if a way is split ahead of it. At least this byte lies between the two splits, so
// both can't be made at one place.
func (s *search) split(at place, by byte) place {
	q := s.y.Step(0, by)
	if at.stage == whole {
		return place{halved, s.x.Step(at.p, by), q}
	}
	return ordered(s.y.Step(at.q, by), q)
}

func ordered(p, q int) place { return place{done, min(p, q), max(p, q)} }

// ends tells whether both ways can end at a place. One that is halved is then split there, behind the last byte.
func (s *search) ends(m met) bool {
	switch at := m.at; at.stage {
	case halved:
		return s.x.Yes(at.p) && s.y.Yes(0) && s.y.Yes(at.q)
	case done:
		return s.y.Yes(at.p) && s.y.Yes(at.q)
	}
	return false
}

// two is the text that leads to a place, and where the two ways to it are split.
func (s *search) two(end int) Two {
	var text []byte
	i, j := 0, 0
	for n := end; n > 0; n = s.list[n].from {
		m := s.list[n]
		text = append(text, m.by)
		if m.at.stage == whole {
			i++
		}
		if m.at.stage != done {
			j++
		}
	}
	slices.Reverse(text)
	return Two{string(text), i, j}
}
