package split

import (
	"slices"
	"testing"

	"periscope/api"
	"periscope/dfa"
	"periscope/re"
	"periscope/set"
	"periscope/text"
)

// has is P3.1's own words for the texts of an expression, which the other tests are held against.
func has(r *re.Re, s string) bool {
	if r == nil {
		return false
	}
	switch r.Op {
	case re.Eps:
		return s == ""
	case re.Class:
		return len(s) == 1 && r.Set.Has(s[0])
	case re.Cat:
		return hasRow(r.Kids, s)
	case re.Or:
		return slices.ContainsFunc(r.Kids, func(k *re.Re) bool { return has(k, s) })
	case re.Star:
		return hasMany(r.Kids[0], s)
	case re.And:
		return !slices.ContainsFunc(r.Kids, func(k *re.Re) bool { return !has(k, s) })
	case re.Minus:
		return has(r.Kids[0], s) && !has(r.Kids[1], s)
	}
	return false
}

func hasRow(kids []*re.Re, s string) bool {
	if len(kids) == 0 {
		return s == ""
	}
	for i := range len(s) + 1 {
		if has(kids[0], s[:i]) && hasRow(kids[1:], s[i:]) {
			return true
		}
	}
	return false
}

func hasMany(r *re.Re, s string) bool {
	if s == "" {
		return true
	}
	for i := range len(s) {
		if has(r, s[:i+1]) && hasMany(r, s[i+1:]) {
			return true
		}
	}
	return false
}

// splits are the places at which a text can be split, by P8.1's words.
func splits(x, y *re.Re, s string) []int {
	var list []int
	for i := range len(s) + 1 {
		if has(x, s[:i]) && has(y, s[i:]) {
			list = append(list, i)
		}
	}
	return list
}

// rows are all ways in which a text is some texts of an expression that isn't Null, one behind the other.
func rows(x *re.Re, s string) [][]string {
	if s == "" {
		return [][]string{nil}
	}
	var list [][]string
	for i := range len(s) {
		if !has(x, s[:i+1]) {
			continue
		}
		for _, rest := range rows(x, s[i+1:]) {
			list = append(list, append([]string{s[:i+1]}, rest...))
		}
	}
	return list
}

// draw is numbers in an order that looks like none, the same each time.
type draw uint64

func (d *draw) below(n int) int {
	*d = *d*6364136223846793005 + 1442695040888963407
	return int(uint64(*d)>>33) % n
}

func someSet(d *draw) set.Set {
	return []set.Set{
		set.Of('a'), set.Of('b'), set.Of('c'), set.Of('a', 'b'), set.Of('a', 'c'),
		set.All(), set.Of('a').Not(), set.Of(0, 255), set.Of('b', 'c'), set.Of('a'),
	}[d.below(10)]
}

// some makes an expression by layer 3's calls.
func some(d *draw, deep int) *re.Re {
	op := d.below(8)
	if deep == 0 || op == 0 {
		if d.below(6) == 0 {
			return re.Empty()
		}
		return re.One(someSet(d))
	}
	var kids []*re.Re
	for range 2 + d.below(2) {
		kids = append(kids, some(d, deep-1))
	}
	switch op {
	case 1, 2, 3:
		return re.Then(kids...)
	case 4:
		return re.Any(kids...)
	case 5:
		return re.Both(kids...)
	case 6:
		return re.But(kids[0], kids[1])
	}
	return re.Many(kids[0])
}

// code makes some short words.
func code(d *draw) *re.Re {
	var words []*re.Re
	for range 2 + d.below(4) {
		w := ""
		for range 1 + d.below(4) {
			w += "abc"[d.below(2+d.below(2)):][:1]
		}
		words = append(words, re.Word(w))
	}
	return re.Any(words...)
}

// singles are many expressions, those of no texts and of all among them.
func singles(n int) []*re.Re {
	d := draw(9)
	list := []*re.Re{nil, re.Nothing(), re.Empty(), re.Both()}
	for i := range n {
		x := some(&d, 1+i%4)
		switch i % 4 {
		case 1:
			x = code(&d)
		case 2:
			x = re.Many(code(&d))
		case 3:
			x = re.Then(re.Many(x), code(&d))
		}
		list = append(list, x)
	}
	return list
}

// texts are all texts of up to some bytes, the shorter ones first.
func texts(bytes string, most int) []string {
	list := []string{""}
	for from := 0; len(list[from]) < most; from++ {
		for i := range len(bytes) {
			list = append(list, list[from]+bytes[i:i+1])
		}
	}
	return list
}

// words are all short texts of three bytes, and some of other bytes.
func words() []string {
	return append(texts("abc", 4), "\x00", "\xff", "\x00\xff", "a\xffb", "?b", "\xff\xff\xff", "aababa", "abcabc", "cbacba")
}

// read is an expression of a text.
func read(t *testing.T, s string) *re.Re {
	t.Helper()
	r, e, at := text.Read(s)
	if e != api.OK {
		t.Fatalf("%q: %d at %d", s, e, at)
	}
	return r
}

// build is the Side of an expression by a budget that is great enough.
func build(t *testing.T, r *re.Re) *Side {
	t.Helper()
	s, e := Build(r, dfa.Grant(100000))
	if e != api.OK || s == nil {
		t.Fatalf("%s: %d", text.Of(r), e)
	}
	return s
}

// side is the Side of an expression that is written so.
func side(t *testing.T, s string) *Side {
	t.Helper()
	return build(t, read(t, s))
}

// great is an expression of a Size (7 at least) that has two states only, read from its end, too: by no byte both of
// its words go on.
func great(size int) *re.Re {
	n := size - 3
	w := make([]byte, n)
	for i := range w {
		w[i] = 'x'
	}
	w[0], w[n/2-1] = 'a', 'a'
	w[n/2], w[n-1] = 'b', 'b'
	return re.Both(re.Word(string(w[:n/2])), re.Word(string(w[n/2:])))
}
