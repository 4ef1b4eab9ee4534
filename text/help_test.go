package text

import (
	"slices"
	"strings"
	"testing"

	"periscope/api"
	"periscope/re"
	"periscope/set"
)

// draw is numbers in an order that looks like none, the same each time.
type draw uint64

func (d *draw) below(n int) int {
	*d = *d*6364136223846793005 + 1442695040888963407
	return int(uint64(*d)>>33) % n
}

func one(d *draw, list ...string) string { return list[d.below(len(list))] }

// written is P4.1's words for how a byte is written, by listing the bytes rather than by asking.
func written() [256]string {
	var out [256]string
	const hex = "0123456789abcdef"
	for b := range out {
		out[b] = `\x` + hex[b/16:b/16+1] + hex[b%16:b%16+1]
	}
	for b := 0x20; b < 0x7f; b++ {
		out[b] = string(rune(b))
	}
	for _, b := range []byte(` ()[]|&-*+?.\^/"#`) {
		out[b] = `\` + string(rune(b))
	}
	out[10], out[9] = `\n`, `\t`
	return out
}

// spelled is each way in which Read takes a byte, and the byte.
func spelled() map[string]byte {
	out := map[string]byte{`\n`: 10, `\t`: 9}
	const hex = "0123456789abcdef"
	for b := range 256 {
		out[`\x`+hex[b/16:b/16+1]+hex[b%16:b%16+1]] = byte(b)
	}
	for b := 0x20; b < 0x7f; b++ {
		c := string(rune(b))
		if !strings.Contains("abcdefghijklmnopqrstuvwxyzABCDEFGHIJKLMNOPQRSTUVWXYZ0123456789", c) {
			out[`\`+c] = byte(b)
		}
		if !strings.Contains(` ()[]|&-*+?.\`, c) {
			out[c] = byte(b)
		}
	}
	return out
}

// parts cuts a text up: each byte as it is spelled, each other byte alone. They are told with where they begin.
func parts(s string, ways map[string]byte) ([]string, []int) {
	var list []string
	var at []int
	for i := 0; i < len(s); {
		n := 1
		for _, m := range []int{4, 2} {
			if _, ok := ways[s[i:min(i+m, len(s))]]; ok && i+m <= len(s) && s[i] == '\\' {
				n = m
			}
		}
		list, at = append(list, s[i:i+n]), append(at, i)
		i += n
	}
	return list, append(at, len(s))
}

// grammar is that of P4.2, with w for the blanks between two parts. A sign in quotes, and byte, blank and
// first, stand for a part of the text. A ^ just behind [ is never a byte of the set, where the grammar's row
// leaves that open.
func grammar() map[string][][]string {
	rows := map[string]string{
		"whole": "w or",
		"w":     "| blank w",
		"or":    "minus | or '|' w minus",
		"minus": "and | minus '-' w and",
		"and":   "cat | and '&' w cat",
		"cat":   "post | cat post",
		"post":  "atom w | post '*' w | post '+' w | post '?' w",
		"atom":  "'(' w ')' | '(' w or ')' | '[' ']' | '[' head ']' | '[' '^' runs ']' | '.' | byte",
		"head":  "first | first '-' byte | head byte | head byte '-' byte",
		"runs":  "| runs byte | runs byte '-' byte",
	}
	out := map[string][][]string{}
	for name, row := range rows {
		// The sign | in quotes isn't a bar between two ways.
		for _, way := range strings.Split(strings.ReplaceAll(row, "'|'", "BAR"), "|") {
			out[name] = append(out[name], strings.Fields(strings.ReplaceAll(way, "BAR", "'|'")))
		}
	}
	return out
}

// item is a way of a name, up to where it was found, and where that began.
type item struct {
	name           string
	way, dot, from int
}

// stuck is Earley's method: where no text of the grammar goes on as this one does (of which the parts are
// told); -1, if it is one of the grammar's.
func stuck(list []string, at []int, g map[string][][]string, ways map[string]byte) int {
	states := make([][]item, len(list)+1)
	add := func(i int, x item) {
		if !slices.Contains(states[i], x) {
			states[i] = append(states[i], x)
		}
	}
	add(0, item{"whole", 0, 0, 0})
	for i := range states {
		for j := 0; j < len(states[i]); j++ {
			x := states[i][j]
			way := g[x.name][x.way]
			if x.dot == len(way) {
				for _, y := range slices.Clone(states[x.from]) {
					if w := g[y.name][y.way]; y.dot < len(w) && w[y.dot] == x.name {
						add(i, item{y.name, y.way, y.dot + 1, y.from})
					}
				}
				continue
			}
			next := way[x.dot]
			if _, ok := g[next]; ok {
				for k := range g[next] {
					add(i, item{next, k, 0, i})
				}
				// What was found empty here already won't be met again.
				for _, y := range slices.Clone(states[i]) {
					if y.name == next && y.from == i && y.dot == len(g[next][y.way]) {
						add(i, item{x.name, x.way, x.dot + 1, x.from})
					}
				}
			} else if i < len(list) && fits(next, list[i], ways) {
				add(i+1, item{x.name, x.way, x.dot + 1, x.from})
			}
		}
		if i < len(list) && len(states[i+1]) == 0 {
			return at[i]
		}
	}
	if slices.Contains(states[len(list)], item{"whole", 0, 2, 0}) {
		return -1
	}
	return at[len(list)]
}

func fits(want, part string, ways map[string]byte) bool {
	switch want {
	case "blank":
		return strings.Contains(" \t\n\r", part)
	case "byte", "first":
		_, ok := ways[part]
		return ok && (want == "byte" || part != "^")
	}
	return want == "'"+part+"'"
}

// turned is where the first run of a set stands behind, in a text up to where it is stuck, whose second byte
// is below its first one; -1, if there is none.
func turned(list []string, at []int, end int, ways map[string]byte) int {
	open := false
	for i, p := range list {
		if at[i] >= end && end >= 0 {
			break
		}
		switch {
		case p == "[":
			open = true
		case p == "]":
			open = false
		case p == "-" && open && i > 0 && i+1 < len(list) && (end < 0 || at[i+1] < end):
			if ways[list[i+1]] < ways[list[i-1]] {
				return at[i+2]
			}
		}
	}
	return -1
}

// formError is where the error of a text is that is within all limits; -1, if it is none.
func formError(s string, g map[string][][]string, ways map[string]byte) int {
	list, at := parts(s, ways)
	end := stuck(list, at, g, ways)
	if n := turned(list, at, end, ways); n >= 0 {
		return n
	}
	return end
}

// short is a text for the eye.
func short(s string) string {
	if len(s) > 90 {
		return s[:40] + " .. " + s[len(s)-40:]
	}
	return s
}

func wantError(t *testing.T, s string, e api.Errno, at int) {
	t.Helper()
	if r, f, x := Read(s); r != nil || f != e || x != api.Pos(at) {
		t.Errorf("%q: %v, %d at %d, not %d at %d", short(s), r, f, x, e, at)
	}
}

func wantRead(t *testing.T, s string, want *re.Re) {
	t.Helper()
	r, e, at := Read(s)
	s = short(s)
	if e != api.OK || at != 0 || r == nil {
		t.Fatalf("%q: %d at %d", s, e, at)
	}
	if !r.Same(want) {
		t.Fatalf("%q is %q, not %q", s, Of(r), Of(want))
	}
}

// program is a text of the grammar, put together by its rows, and what it must be. Blanks lie at random.
type program struct {
	d    *draw
	ways [256][]string
	size int // how much may still be written
}

func newProgram(seed int) *program {
	p := &program{d: new(draw)}
	*p.d = draw(seed)
	for w, b := range spelled() {
		p.ways[b] = append(p.ways[b], w)
	}
	for _, list := range p.ways {
		slices.Sort(list)
	}
	return p
}

func (p *program) blank() string {
	if p.d.below(3) > 0 {
		return ""
	}
	return one(p.d, " ", "\t", "\n", "\r", "  ", " \r\n", "\t\n ")
}

func (p *program) byte() (string, byte) {
	b := byte("abcabcabcx^/\"# -\n\x00\xff.~"[p.d.below(21)])
	return one(p.d, p.ways[b]...), b
}

// row is one or more of a kind, with a sign between.
func (p *program) row(sign string, of func() (string, *re.Re), join func(...*re.Re) *re.Re) (string, *re.Re) {
	s, r := of()
	list := []*re.Re{r}
	for p.size > 0 && p.d.below(3) == 0 {
		s1, r1 := of()
		s += p.blank() + sign + p.blank() + s1
		list = append(list, r1)
	}
	return s, join(list...)
}

func (p *program) or() (string, *re.Re) { return p.row("|", p.minus, re.Any) }

func (p *program) minus() (string, *re.Re) {
	return p.row("-", p.and, func(list ...*re.Re) *re.Re {
		r := list[0]
		for _, x := range list[1:] {
			r = re.But(r, x)
		}
		return r
	})
}

func (p *program) and() (string, *re.Re) { return p.row("&", p.cat, re.Both) }

func (p *program) cat() (string, *re.Re) { return p.row("", p.post, re.Then) }

func (p *program) post() (string, *re.Re) {
	s, r := p.atom()
	for p.d.below(4) == 0 {
		sign := one(p.d, "*", "+", "?")
		s += p.blank() + sign
		switch sign {
		case "*":
			r = re.Many(r)
		case "+":
			r = re.Then(r, re.Many(r))
		case "?":
			r = re.Any(r, re.Empty())
		}
	}
	return s, r
}

func (p *program) atom() (string, *re.Re) {
	p.size--
	switch k := p.d.below(8); {
	case k == 0:
		return "(" + p.blank() + ")", re.Empty()
	case k < 3 && p.size > 0:
		s, r := p.or()
		return "(" + p.blank() + s + p.blank() + ")", r
	case k == 3:
		return p.class()
	case k == 4:
		return ".", re.One(set.All())
	}
	s, b := p.byte()
	return s, re.Word(string([]byte{b}))
}

func (p *program) class() (string, *re.Re) {
	var list []byte
	out, not := "[", p.d.below(2) == 0
	if not {
		out += "^"
	}
	for p.d.below(3) > 0 {
		s, low := p.byte()
		if !not && out == "[" && s == "^" {
			s = `\^`
		}
		s1, high := p.byte()
		if p.d.below(2) == 0 || high < low {
			s1, high = "", low
		} else {
			s1 = "-" + s1
		}
		out += s + s1
		for b := int(low); b <= int(high); b++ {
			list = append(list, byte(b))
		}
	}
	s := set.Of(list...)
	if not {
		s = s.Not()
	}
	return out + "]", re.One(s)
}

// someRe is an expression that layer 3's calls made.
func someRe(d *draw, deep int) *re.Re {
	k := d.below(12)
	if deep == 0 {
		k %= 4
	}
	var list []*re.Re
	if k > 3 {
		for range 1 + d.below(3) {
			list = append(list, someRe(d, deep-1))
		}
	}
	switch k {
	case 0:
		return re.Word(one(d, "", "a", "ab", "x*y", " ", "^", "a-b", "\n\t\r", "()", "\x7f\x00\xff", "#/\""))
	case 1:
		return re.One(someSet(d))
	case 2:
		return re.Empty()
	case 3:
		return re.Word(one(d, "a", "b", "c"))
	case 4, 5:
		return re.Then(list...)
	case 6, 7:
		return re.Any(list...)
	case 8:
		return re.Both(list...)
	case 9, 10:
		return re.Many(list[0])
	}
	return re.But(list[0], someRe(d, deep-1))
}

func someSet(d *draw) set.Set {
	var s set.Set
	switch d.below(3) {
	case 0:
		s = set.Of(byte(d.below(256)), byte(d.below(256)))
	case 1:
		for range d.below(5) {
			low := d.below(256)
			s = s.Or(set.From(byte(low), byte(min(255, low+d.below(40)))))
		}
	case 2:
		for i := range s {
			s[i] = uint64(d.below(1<<30))<<34 ^ uint64(d.below(1<<30))<<10 ^ uint64(d.below(1<<10))
		}
	}
	if d.below(4) == 0 {
		s = s.Not()
	}
	return s
}

// nested is how many parentheses of a text, those without \ ahead, lie in one another.
func nested(s string) int {
	open, most := 0, 0
	for i := 0; i < len(s); i++ {
		switch s[i] {
		case '\\':
			i++
		case '(':
			open++
		case ')':
			open--
		}
		most = max(most, open)
	}
	return most
}
