package auto

import (
	"slices"
	"strings"
	"testing"

	"periscope/api"
	"periscope/dfa"
	"periscope/re"
	"periscope/text"
)

// unlike tells which pairs of states differ by some text: those of which one is Yes, then those which a head leads to
// such a pair, till nothing is new.
func unlike(d *dfa.Dfa) [][]bool {
	n, heads := d.Len(), d.Heads()
	out := make([][]bool, n)
	for p := range out {
		out[p] = make([]bool, n)
		for q := range n {
			out[p][q] = d.Yes(p) != d.Yes(q)
		}
	}
	for again := true; again; {
		again = false
		for p := range n {
			for q := range n {
				for _, h := range heads {
					if !out[p][q] && out[d.Step(p, h)][d.Step(q, h)] {
						out[p][q], again = true, true
					}
				}
			}
		}
	}
	return out
}

// groupsByPairs is P7.2's words: a state has the number of the first one that it isn't unlike.
func groupsByPairs(d *dfa.Dfa) []int {
	var out []int
	pairs, count := unlike(d), 0
	for q := range d.Len() {
		first := slices.Index(pairs[q], false)
		if first < q {
			out = append(out, out[first])
		} else {
			out = append(out, count)
			count++
		}
	}
	return out
}

func TestGroupsByHand(t *testing.T) {
	for _, c := range []struct {
		r    string
		want []int
	}{
		{"[]", []int{0}},
		{"()", []int{0, 1}},
		{".*", []int{0}},
		{"a", []int{0, 1, 2}},
		{"(ab)*", []int{0, 1, 2}},
		{"a*a*", []int{0, 1, 0}},
		// (aa)*|aa(aa)*, Nothing, a(aa)*, (aa)*.
		{"(aa)*|aa(aa)*", []int{0, 1, 2, 0}},
		// All of them are without texts.
		{"(aa)*a&(aa)*", []int{0, 0, 0}},
		{"ab|cb", []int{0, 1, 2, 3}},
		// Behind a is b*, behind c is b*b*.
		{"ab*|cb*b*", []int{0, 1, 2, 2, 2}},
	} {
		if got := Groups(build(t, read(t, c.r))); !slices.Equal(got, c.want) {
			t.Errorf("Groups of %s: %v, not %v", c.r, got, c.want)
		}
	}
}

func TestGroupsOfNil(t *testing.T) {
	for _, d := range []*dfa.Dfa{nil, new(dfa.Dfa)} {
		if list := Groups(d); len(list) != 0 {
			t.Error(list)
		}
	}
}

func TestGroups(t *testing.T) {
	fewer, big := 0, 0
	for _, r := range samples(2500) {
		d := build(t, r)
		if d.Len() > 60 {
			continue
		}
		got, want := Groups(d), groupsByPairs(d)
		if !slices.Equal(got, want) {
			t.Fatalf("Groups of %s: %v, not %v", text.Of(r), got, want)
		}
		if groups := slices.Max(got) + 1; groups < d.Len() {
			fewer++
			if groups > 5 {
				big++
			}
		}
	}
	if fewer < 250 || big < 40 {
		t.Error("few samples:", fewer, big)
	}
}

// States of one group lead to the same by each text; those of two differ by one that is shorter than there are states.
func TestGroupsByTexts(t *testing.T) {
	list := texts(headBytes, 3)
	for _, r := range samples(300) {
		d := build(t, r)
		groups := Groups(d)
		if len(groups) != d.Len() || d.Len() > 30 {
			continue
		}
		for p := range groups {
			for q := range p {
				differ := slices.ContainsFunc(list, func(s string) bool { return d.Yes(d.Run(p, s)) != d.Yes(d.Run(q, s)) })
				if differ && groups[p] == groups[q] || !differ && groups[p] != groups[q] && d.Len() <= 4 {
					t.Fatalf("%s: states %d and %d", text.Of(r), p, q)
				}
			}
		}
	}
}

// Many states, in which a difference shows only behind all the others.
func TestGroupsOfMany(t *testing.T) {
	const n = 3000
	word := Groups(build(t, re.Word(strings.Repeat("a", n))))
	for q, g := range word {
		if g != q {
			t.Fatal("a long word: state", q, "is of group", g)
		}
	}
	if len(word) != n+2 {
		t.Error(len(word))
	}
	// Two rings, one of them twice as long: each state of the one is of the group of one of the other.
	ring := re.Word(strings.Repeat("a", 400))
	d := build(t, re.Any(re.Then(re.Word("b"), re.Many(ring)), re.Then(re.Word("c"), re.Many(re.Then(ring, ring)), re.Any(ring, re.Empty()))))
	groups := Groups(d)
	if most := slices.Max(groups); most != 401 || d.Len() < 1200 {
		t.Error("rings:", most, d.Len())
	}
	if groups[d.Run(0, "b"+strings.Repeat("a", 7))] != groups[d.Run(0, "c"+strings.Repeat("a", 407))] {
		t.Error("rings: states that are at the same place")
	}
}

func TestGroupsAreNew(t *testing.T) {
	d := build(t, read(t, "a*a*"))
	Groups(d)[0] = 7
	if got := Groups(d); !slices.Equal(got, []int{0, 1, 0}) {
		t.Error(got)
	}
}

func TestLeastByHand(t *testing.T) {
	for _, c := range []struct {
		r    string
		want int
	}{
		{"[]", 1}, {"()", 2}, {".*", 1}, {"a", 3}, {"a*", 2}, {"a*a*a*", 2}, {"(ab)*", 3}, {"abc", 5},
		{"(aa)*|aa(aa)*", 3}, {"(a|b)*abb", 5}, {"(a*b*)*", 2}, {"(aa)*a&(aa)*", 1}, {".*-.*", 1},
		{"(a|b)*-(a*b*)*", 1}, {".*-()", 2}, {"(...)*&(.....)*", 15}, {"a|b|c", 3}, {"ab|cb", 4}, {"ax|bx|cx", 4},
	} {
		r := read(t, c.r)
		if n, e := Least(r, dfa.Grant(1000)); n != c.want || e != api.OK {
			t.Errorf("Least of %s: %d, %d, not %d", c.r, n, e, c.want)
		}
	}
	if n, e := Least(far(t, 9), dfa.Grant(5000)); n != 1<<10+1 || e != api.OK {
		t.Error("the tenth one from the end:", n, e)
	}
}

// What has the same texts needs as many states, however it is written.
func TestLeast(t *testing.T) {
	for _, r := range samples(700) {
		d := build(t, r)
		n, e := Least(r, dfa.Grant(100000))
		if list := Groups(d); e != api.OK || n != slices.Max(list)+1 || n > d.Len() {
			t.Fatalf("Least of %s: %d, %d", text.Of(r), n, e)
		}
		all := re.Both()
		for _, other := range []*re.Re{re.But(all, re.But(all, r)), re.Then(r, re.Many(re.Nothing())), re.Both(r, re.Any(r, re.Word("b")))} {
			if m, e := Least(other, dfa.Grant(100000)); m != n || e != api.OK {
				t.Fatalf("Least of %s: %d; of %s: %d, %d", text.Of(r), n, text.Of(other), m, e)
			}
		}
	}
}
