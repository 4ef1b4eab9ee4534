package ambig

import (
	"maps"
	"slices"
	"strconv"
	"strings"
	"testing"

	"periscope/api"
	"periscope/deriv"
	"periscope/dfa"
	"periscope/re"
	"periscope/set"
	"periscope/text"
)

// has is P3.1's own words for the texts of an expression, which the other tests are held against.
func has(r *re.Re, s string) bool {
	if r == nil {
		return false
	}
	switch r.Op {
	case re.Eps:
		return s == ""
	case re.Class:
		return len(s) == 1 && r.Set.Has(s[0])
	case re.Cat:
		return hasRow(r.Kids, s)
	case re.Or:
		return slices.ContainsFunc(r.Kids, func(k *re.Re) bool { return has(k, s) })
	case re.Star:
		return hasMany(r.Kids[0], s)
	case re.And:
		return !slices.ContainsFunc(r.Kids, func(k *re.Re) bool { return !has(k, s) })
	case re.Minus:
		return has(r.Kids[0], s) && !has(r.Kids[1], s)
	}
	return false
}

func hasRow(kids []*re.Re, s string) bool {
	if len(kids) == 0 {
		return s == ""
	}
	for i := range len(s) + 1 {
		if has(kids[0], s[:i]) && hasRow(kids[1:], s[i:]) {
			return true
		}
	}
	return false
}

func hasMany(r *re.Re, s string) bool {
	if s == "" {
		return true
	}
	for i := range len(s) {
		if has(r, s[:i+1]) && hasMany(r, s[i+1:]) {
			return true
		}
	}
	return false
}

// splits are the places at which a text can be split, by P8.1's words.
func splits(x, y *re.Re, s string) []int {
	var list []int
	for i := range len(s) + 1 {
		if has(x, s[:i]) && has(y, s[i:]) {
			list = append(list, i)
		}
	}
	return list
}

// rows is in how many ways a text is some texts of an expression that isn't Null, one behind the other.
func rows(x *re.Re, s string) int {
	if s == "" {
		return 1
	}
	n := 0
	for i := range len(s) {
		if has(x, s[:i+1]) {
			n += rows(x, s[i+1:])
		}
	}
	return n
}

// ways is all that the texts of x and of y behind them can be split into, while a text is read: the state of x, and of
// each state of y how many ways are there, two standing for more.
type ways struct {
	p    int
	many map[int]int
	text string
}

func (w ways) add(q, n int) { w.many[q] = min(2, w.many[q]+n) }

func (w ways) name() string {
	out := []byte(strconv.Itoa(w.p))
	for _, q := range slices.Sorted(maps.Keys(w.many)) {
		out = append(out, ' ')
		out = strconv.AppendInt(out, int64(q), 10)
		out = append(out, ":"[0])
		out = strconv.AppendInt(out, int64(w.many[q]), 10)
	}
	return string(out)
}

// leastTwo is the least text that can be split in two ways, found by reading all texts in all ways at once, and not two
// by two; the last answer tells whether a bound on how many ways there are was enough.
func leastTwo(x, y *dfa.Dfa, bytes string, bound int) (string, bool, bool) {
	w := ways{0, map[int]int{}, ""}
	if x.Yes(0) {
		w.add(0, 1)
	}
	list, known := []ways{w}, map[string]bool{w.name(): true}
	for i := 0; i < len(list); i++ {
		n := 0
		for q, many := range list[i].many {
			if y.Yes(q) {
				n += many
			}
		}
		if n > 1 {
			return list[i].text, true, true
		}
		for j := range len(bytes) {
			next := ways{x.Step(list[i].p, bytes[j]), map[int]int{}, list[i].text + bytes[j:j+1]}
			for q, many := range list[i].many {
				next.add(y.Step(q, bytes[j]), many)
			}
			if x.Yes(next.p) {
				next.add(0, 1)
			}
			if !known[next.name()] {
				known[next.name()] = true
				list = append(list, next)
			}
		}
		if len(list) > bound {
			return "", false, false
		}
	}
	return "", false, true
}

// right tells whether a Two is what P8.1 says of it.
func right(x, y *re.Re, w Two) bool {
	can := func(i int) bool { return deriv.Match(x, w.Text[:i]) && deriv.Match(y, w.Text[i:]) }
	return 0 <= w.I && w.I < w.J && w.J <= len(w.Text) && can(w.I) && can(w.J)
}

// draw is numbers in an order that looks like none, the same each time.
type draw uint64

func (d *draw) below(n int) int {
	*d = *d*6364136223846793005 + 1442695040888963407
	return int(uint64(*d)>>33) % n
}

func someSet(d *draw) set.Set {
	return []set.Set{
		set.Of('a'), set.Of('b'), set.Of('c'), set.Of('a', 'b'), set.Of('a', 'c'),
		set.All(), set.Of('a').Not(), set.Of(0, 255), set.Of('b', 'c'), set.Of('a'),
	}[d.below(10)]
}

// headBytes are the least bytes of the parts into which the sets of samples cut all bytes.
const headBytes = "\x00\x01abc"

// some makes an expression by layer 3's calls.
func some(d *draw, deep int) *re.Re {
	op := d.below(8)
	if deep == 0 || op == 0 {
		if d.below(6) == 0 {
			return re.Empty()
		}
		return re.One(someSet(d))
	}
	var kids []*re.Re
	for range 2 + d.below(2) {
		kids = append(kids, some(d, deep-1))
	}
	switch op {
	case 1, 2, 3:
		return re.Then(kids...)
	case 4:
		return re.Any(kids...)
	case 5:
		return re.Both(kids...)
	case 6:
		return re.But(kids[0], kids[1])
	}
	return re.Many(kids[0])
}

// code makes some short words.
func code(d *draw) *re.Re {
	var words []*re.Re
	for range 2 + d.below(4) {
		w := ""
		for range 1 + d.below(4) {
			w += "abc"[d.below(2+d.below(2)):][:1]
		}
		words = append(words, re.Word(w))
	}
	return re.Any(words...)
}

// row makes some codes one behind the other, each of which may be there, or be there again and again.
func row(d *draw) *re.Re {
	var kids []*re.Re
	for range 1 + d.below(3) {
		x := code(d)
		switch d.below(3) {
		case 0:
			x = re.Any(x, re.Empty())
		case 1:
			x = re.Many(x)
		}
		kids = append(kids, x)
	}
	return re.Then(kids...)
}

// pairs are many pairs of expressions, those of no texts among them.
func pairs(n int) [][2]*re.Re {
	d := draw(8)
	ends := []*re.Re{nil, re.Nothing(), re.Empty(), re.Both()}
	var list [][2]*re.Re
	for _, x := range ends {
		for _, y := range ends {
			list = append(list, [2]*re.Re{x, y})
		}
	}
	for i := range n {
		x, y := some(&d, 1+i%4), some(&d, 1+i/4%4)
		switch i % 5 {
		case 0:
			x = code(&d)
		case 1:
			x, y = code(&d), code(&d)
		case 2, 3:
			x, y = row(&d), row(&d)
		}
		list = append(list, [2]*re.Re{x, y})
	}
	return list
}

// singles are many expressions, few of which are Null.
func singles(n int) []*re.Re {
	d := draw(9)
	list := []*re.Re{nil, re.Nothing(), re.Empty(), re.Both()}
	for i := range n {
		x := code(&d)
		switch i % 3 {
		case 0:
			x = some(&d, 1+i%4)
		case 1:
			x = re.Any(x, re.Then(re.One(someSet(&d)), some(&d, 1+i%3)))
		}
		list = append(list, x)
	}
	return list
}

// read is an expression of a text.
func read(t *testing.T, s string) *re.Re {
	t.Helper()
	r, e, at := text.Read(s)
	if e != api.OK {
		t.Fatalf("%q: %d at %d", s, e, at)
	}
	return r
}

// build is the states of an expression by a budget that is great enough.
func build(t *testing.T, r *re.Re) *dfa.Dfa {
	t.Helper()
	d, e := dfa.Build(r, dfa.Grant(100000))
	if e != api.OK || d == nil {
		t.Fatalf("%s: %d", text.Of(r), e)
	}
	return d
}

// texts are all texts of up to some bytes, the shorter ones first.
func texts(bytes string, most int) []string {
	list := []string{""}
	for from := 0; len(list[from]) < most; from++ {
		for i := range len(bytes) {
			list = append(list, list[from]+bytes[i:i+1])
		}
	}
	return list
}

// times is an expression, so many of it one behind the other.
func times(s string, n int) *re.Re { return re.Word(strings.Repeat(s, n)) }

// great is an expression of a Size (7 at least) that has two states only: by no byte both of its words go on.
func great(size int) *re.Re {
	n := size - 3
	w := make([]byte, n)
	for i := range w {
		w[i] = 'x'
	}
	w[0], w[n/2] = 'a', 'b'
	return re.Both(re.Word(string(w[:n/2])), re.Word(string(w[n/2:])))
}
