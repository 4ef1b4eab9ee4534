package alike

// parting is states in groups, which are split and split again.
type parting struct {
	of      []int   // of each state its group
	order   []int   // the states, those of a group side by side, the marked ones of it ahead
	place   []int   // of each state where it stands in the order
	groups  []group // their number grows only
	touched []int   // groups that have marked states
}

// group is a piece of the order: from first to end (without it), up to marked (without it) its marked states.
type group struct{ first, marked, end int }

// oneGroup is all of n states in one group (of none, no group).
func oneGroup(n int) *parting {
	p := &parting{of: make([]int, n), order: make([]int, n), place: make([]int, n)}
	for q := range n {
		p.order[q], p.place[q] = q, q
	}
	if n > 0 {
		p.groups = append(p.groups, group{0, 0, n})
	}
	return p
}

// states is those of a group: a piece of the order itself.
func (p *parting) states(g int) []int { return p.order[p.groups[g].first:p.groups[g].end] }

// mark marks a state that isn't marked. (Nobody does so twice between two splits, since one column leads from a state to
// one only.)
func (p *parting) mark(q int) {
	g := &p.groups[p.of[q]]
	if g.marked == g.first {
		p.touched = append(p.touched, p.of[q])
	}
	other := p.order[g.marked]
	p.put(other, p.place[q])
	p.put(q, g.marked)
	g.marked++
}

func (p *parting) put(q, at int) { p.order[at], p.place[q] = q, at }

// split parts the marked states of each group from the others; then none is marked any more.
func (p *parting) split() {
	for _, g := range p.touched {
		was := p.groups[g]
		low, high := group{was.first, was.first, was.marked}, group{was.marked, was.marked, was.end}
		p.groups[g].marked = was.first
		// The smaller half is the new group: so a state is in a new one seldom, and all is done in few rounds.
		switch {
		case high.len() == 0:
		case low.len() < high.len():
			p.groups[g] = high
			p.add(low)
		default:
			p.groups[g] = low
			p.add(high)
		}
	}
	p.touched = p.touched[:0]
}

func (g group) len() int { return g.end - g.first }

// add makes a piece of the order a group of its own.
func (p *parting) add(g group) {
	p.groups = append(p.groups, g)
	for _, q := range p.order[g.first:g.end] {
		p.of[q] = len(p.groups) - 1
	}
}
