package elim

import (
	"slices"

	"periscope/api"
	"periscope/re"
)

// most is the greatest Size of an expression that may be made.
const most = 20 * api.MaxNodes

// sum is texts in terms of unknowns: of each unknown those that have one of its texts behind them; last, those that
// stand alone.
type sum []*re.Re

// newSum is a sum of expressions, of which nil counts as Nothing.
func newSum(parts []*re.Re, end *re.Re) sum {
	out := append(slices.Clone(parts), end)
	for i, r := range out {
		if r == nil {
			out[i] = re.Nothing()
		}
	}
	return out
}

// blank is a sum of no texts.
func blank(unknowns int) sum { return newSum(make([]*re.Re, unknowns), nil) }

// lone is the texts of one unknown.
func lone(unknowns, k int) sum {
	s := blank(unknowns)
	s[k] = re.Empty()
	return s
}

// system is sums, out of which one unknown after the other is taken, till nothing but what stands alone is left.
type system struct {
	sums []sum // of each unknown what it is, then those that are asked for
	left []int // the unknowns that weren't taken out
	many bool  // whether an expression would have been too great: what the others are makes nothing out then
}

// solve is the texts of some sums, by what each unknown is.
func solve(unknowns, asked []sum) ([]*re.Re, api.Errno) {
	s := system{sums: slices.Concat(unknowns, asked)}
	for k := range unknowns {
		s.left = append(s.left, k)
	}
	for len(s.left) > 0 && !s.many {
		s.take(s.next())
	}
	if s.many {
		return nil, api.ErrMany
	}
	out := make([]*re.Re, len(asked))
	for i, sum := range asked {
		out[i] = sum[len(sum)-1]
	}
	return out, api.OK
}

// take takes an unknown out: what it is stands in its place wherever it stood. Texts of its own that have it behind
// them come as often as one likes ahead of its others, and so no other text becomes one of it than must be.
func (s *system) take(k int) {
	own := s.sums[k]
	s.sums[k] = blank(len(own) - 1)
	s.left = slices.DeleteFunc(s.left, func(u int) bool { return u == k })
	loop := own[k]
	own[k] = re.Nothing()
	for j, r := range own {
		if !isNone(r) {
			own[j] = s.then(s.star(loop), r)
		}
	}
	for _, sum := range s.sums {
		head := sum[k]
		sum[k] = re.Nothing()
		for j, r := range own {
			sum[j] = s.either(sum[j], s.then(head, r))
		}
	}
}

// next is the unknown by whose going the expressions grow least. Which one goes first makes nothing out for the texts,
// and much for how great the expressions become.
func (s *system) next() int {
	growth := make([]int, len(s.sums))
	for _, k := range s.left {
		growth[k] = s.growth(k)
	}
	return slices.MinFunc(s.left, func(j, k int) int { return growth[j] - growth[k] })
}

// growth is by how much the expressions grow, more or less, if an unknown is taken out: what a sum has ahead of it is
// written once for each part of its own sum then, each such part once for each of those sums, and its loop for both.
func (s *system) growth(k int) int {
	ahead, behind, loop := 0, 0, weight(s.sums[k][k])
	sums, ways := 0, 0
	for i, sum := range s.sums {
		if i != k && !isNone(sum[k]) {
			sums, ahead = sums+1, ahead+weight(sum[k])
		}
	}
	for j, r := range s.sums[k] {
		if j != k && !isNone(r) {
			ways, behind = ways+1, behind+weight(r)
		}
	}
	return ahead*(ways-1) + behind*(sums-1) + loop*(sums*ways-1)
}

// weight is an expression's Size, but that of no text is nothing, and what is too great is all one.
func weight(r *re.Re) int {
	if isNone(r) {
		return 0
	}
	return min(r.Size(), most+1)
}

func isNone(r *re.Re) bool { return r.Op == re.None }

// then is two expressions one behind the other.
func (s *system) then(x, y *re.Re) *re.Re {
	if isNone(x) || isNone(y) {
		return re.Nothing()
	}
	return s.kept(re.Then(s.kept(x), s.kept(y)))
}

// either is the texts of one of two expressions.
func (s *system) either(x, y *re.Re) *re.Re {
	if isNone(y) {
		return x
	}
	return s.kept(re.Any(s.kept(x), s.kept(y)))
}

// star is an expression as often as one likes.
func (s *system) star(r *re.Re) *re.Re { return s.kept(re.Many(s.kept(r))) }

// kept is an expression, if it isn't too great. It is asked ahead of making another one of it, too: one that was
// handed in may be so great that making anything of it takes too long.
func (s *system) kept(r *re.Re) *re.Re {
	if r.Size() > most {
		s.many = true
		return re.Nothing()
	}
	return r
}
