package nfa

import (
	"math"

	"periscope/api"
	"periscope/deriv"
	"periscope/dfa"
	"periscope/part"
	"periscope/re"
)

// Thompson is an expression's states, part by part of it.
func Thompson(r *re.Re, b *dfa.Budget) (Nfa, api.Errno) {
	r = settled(r)
	p := plan{budget: b, known: map[*re.Re]need{}, built: map[*re.Re]*dfa.Dfa{}}
	whole, e := p.need(r)
	if e != api.OK {
		return Nfa{}, e
	}
	states := plus(whole.states, 2)
	if e := b.Take(plus(states, whole.built-p.taken)); e != api.OK {
		return Nfa{}, e
	}
	if states > api.MaxStates {
		return Nfa{}, api.ErrMany
	}
	m := maker{built: p.built}
	from, to := m.state(), m.state()
	m.Starts = []int{from}
	m.Yes[to] = true
	m.lay(r, from, to)
	return m.Nfa, api.OK
}

// settled is an expression in the settled form, nil and what was written out by hand too: But with nothing to take
// away makes just that of it.
func settled(r *re.Re) *re.Re { return re.But(r, nil) }

// need is what an expression needs: how many states beside the two between which it is laid, and how many Build takes
// of each And and Minus, as often as they stand there.
type need struct{ states, built int }

// plus stays at the greatest int where it would lead beyond it.
func plus(a, b int) int { return min(a, math.MaxInt-b) + b }

// plan finds out what an expression needs, ahead of laying it. Parts may be used again and again, so that it is far
// greater than the memory it takes: each of them is looked at, and built, once.
type plan struct {
	budget *dfa.Budget
	known  map[*re.Re]need
	built  map[*re.Re]*dfa.Dfa
	taken  int // what Build took so far
}

func (p *plan) need(r *re.Re) (need, api.Errno) {
	if n, ok := p.known[r]; ok {
		return n, api.OK
	}
	n, e := p.newNeed(r)
	p.known[r] = n
	return n, e
}

func (p *plan) newNeed(r *re.Re) (need, api.Errno) {
	var n need
	switch r.Op {
	case re.And, re.Minus:
		return p.build(r)
	case re.Cat:
		n.states = len(r.Kids) - 1
	case re.Star:
		n.states = 1
	}
	for _, k := range r.Kids {
		more, e := p.need(k)
		if e != api.OK {
			return need{}, e
		}
		n = need{plus(n.states, more.states), plus(n.built, more.built)}
	}
	return n, api.OK
}

// build is need of an And or a Minus, whose states are those of layer 6.
func (p *plan) build(r *re.Re) (need, api.Errno) {
	d, e := dfa.Build(r, p.budget)
	if e != api.OK {
		return need{}, e
	}
	p.built[r] = d
	p.taken += d.Len()
	return need{len(alive(d)), d.Len()}, api.OK
}

// alive is the states from which a text can still come to an end.
func alive(d *dfa.Dfa) []int {
	var list []int
	for q := range d.Len() {
		if d.Live(q) {
			list = append(list, q)
		}
	}
	return list
}

// maker lays an expression's states.
type maker struct {
	Nfa
	built map[*re.Re]*dfa.Dfa
}

// state is a new state.
func (m *maker) state() int {
	m.Yes = append(m.Yes, false)
	m.Edges = append(m.Edges, nil)
	m.Free = append(m.Free, nil)
	return len(m.Yes) - 1
}

func (m *maker) free(from, to int) { m.Free[from] = append(m.Free[from], to) }

// lay lays ways for the texts of an expression from one state to another one. None of them goes on from where it ends,
// nor comes back to where it begins (but where these are one): so several expressions may be laid between two states.
func (m *maker) lay(r *re.Re, from, to int) {
	switch r.Op {
	case re.Eps:
		m.free(from, to)
	case re.Class:
		m.Edges[from] = append(m.Edges[from], Edge{r.Set, to})
	case re.Cat:
		last := len(r.Kids) - 1
		for _, k := range r.Kids[:last] {
			next := m.state()
			m.lay(k, from, next)
			from = next
		}
		m.lay(r.Kids[last], from, to)
	case re.Or:
		for _, k := range r.Kids {
			m.lay(k, from, to)
		}
	case re.Star:
		again := m.state()
		m.free(from, again)
		m.lay(r.Kids[0], again, again)
		m.free(again, to)
	case re.And, re.Minus:
		m.layBuilt(r, from, to)
	}
}

// layBuilt lays the states of layer 6, but those from which no text can come to an end.
func (m *maker) layBuilt(r *re.Re, from, to int) {
	d := m.built[r]
	states := alive(d)
	at := map[int]int{}
	for _, q := range states {
		at[q] = m.state()
	}
	if first, ok := at[0]; ok {
		m.free(from, first)
	}
	parts, heads := part.Refine(deriv.Sets(r)...), d.Heads()
	for _, q := range states {
		if d.Yes(q) {
			m.free(at[q], to)
		}
		for i, h := range heads {
			if next, ok := at[d.Step(q, h)]; ok {
				m.Edges[at[q]] = append(m.Edges[at[q]], Edge{parts[i], next})
			}
		}
	}
}
