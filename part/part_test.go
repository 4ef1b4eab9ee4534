package part

import (
	"slices"
	"testing"

	"periscope/set"
)

// bits are the eight sets by whose words any two bytes are told apart.
func bits() []set.Set {
	var list []set.Set
	for i := range 8 {
		var s set.Set
		for b := range 256 {
			if b>>i&1 == 1 {
				s = s.Or(set.Of(byte(b)))
			}
		}
		list = append(list, s)
	}
	return list
}

func singles() []set.Set {
	var list []set.Set
	for b := range 256 {
		list = append(list, set.Of(byte(b)))
	}
	return list
}

func lists() [][]set.Set {
	some := [][]set.Set{
		nil,
		{},
		{set.Set{}},
		{set.All()},
		{set.Set{}, set.All(), set.Set{}},
		{set.Of(0)},
		{set.Of(255)},
		{set.Of(63), set.Of(64)},
		{set.Of('a'), set.Of('a', 'b')},
		{set.Of('b'), set.Of('b')},
		{set.Of('b'), set.Of('b').Not()},
		{set.From('a', 'm'), set.From('g', 'z')},
		{set.From('a', 'm'), set.From('g', 'z'), set.From('a', 'm'), set.From('g', 'z')},
		{set.Of(0, 255), set.Of(0, 1), set.Of(254, 255)},
		{set.Of(1, 3, 5), set.Of(0, 5)},
		bits(),
		singles(),
		singles()[:255],
		append(bits(), singles()...),
	}
	x := uint64(7)
	for n := range 20 {
		var list []set.Set
		for range n % 9 {
			var s set.Set
			for i := range s {
				x = x*6364136223846793005 + 1442695040888963407
				s[i] = x ^ x>>31
			}
			list = append(list, s)
		}
		some = append(some, list)
	}
	return some
}

// alike is P2.1's own words: each of the list has both, or none of both.
func alike(list []set.Set, a, b byte) bool {
	for _, s := range list {
		if s.Has(a) != s.Has(b) {
			return false
		}
	}
	return true
}

// wanted is the parts, each found as all bytes that are alike to the least one that isn't in any yet.
func wanted(list []set.Set) []set.Set {
	var parts []set.Set
	var done set.Set
	for a := range 256 {
		if done.Has(byte(a)) {
			continue
		}
		var p set.Set
		for b := range 256 {
			if alike(list, byte(a), byte(b)) {
				p = p.Or(set.Of(byte(b)))
			}
		}
		done = done.Or(p)
		parts = append(parts, p)
	}
	return parts
}

func TestRefine(t *testing.T) {
	for _, list := range lists() {
		before := slices.Clone(list)
		if got, want := Refine(list...), wanted(list); !slices.Equal(got, want) {
			t.Errorf("Refine of %x: %x, not %x", list, got, want)
		}
		if !slices.Equal(before, list) {
			t.Errorf("Refine turned its list into %x", list)
		}
	}
}

func TestRefineByHand(t *testing.T) {
	a, b := set.Of('a'), set.Of('b')
	for _, c := range []struct{ list, want []set.Set }{
		{nil, []set.Set{set.All()}},
		{[]set.Set{{}}, []set.Set{set.All()}},
		{[]set.Set{set.All()}, []set.Set{set.All()}},
		{[]set.Set{a, a.Or(b)}, []set.Set{a.Or(b).Not(), a, b}},
		{[]set.Set{b, b, b}, []set.Set{b.Not(), b}},
		{[]set.Set{set.Of(0)}, []set.Set{set.Of(0), set.From(1, 255)}},
		{[]set.Set{set.Of(255)}, []set.Set{set.From(0, 254), set.Of(255)}},
		// What a set cuts out may lie ahead of, within and behind other parts.
		{[]set.Set{set.Of(0, 5), set.Of(5), set.Of(3)}, []set.Set{set.Of(0), set.Of(0, 3, 5).Not(), set.Of(3), set.Of(5)}},
		{bits(), singles()},
		{singles(), singles()},
	} {
		if got := Refine(c.list...); !slices.Equal(got, c.want) {
			t.Errorf("Refine of %x: %x", c.list, got)
		}
	}
}

func TestRefineIsNew(t *testing.T) {
	list := []set.Set{set.All(), set.Of('a')}
	first := Refine(list...)
	first[0] = set.Set{}
	if list[0] != set.All() || list[1] != set.Of('a') {
		t.Error("an answer shares memory with the list")
	}
	if second := Refine(list...); second[0] != set.Of('a').Not() {
		t.Error("two answers share memory")
	}
}

func TestIndexOfParts(t *testing.T) {
	for _, list := range lists() {
		parts := Refine(list...)
		at := Index(parts)
		for b := range 256 {
			if !parts[at[b]].Has(byte(b)) {
				t.Fatalf("%x: byte %d isn't in part %d", parts, b, at[b])
			}
		}
	}
}

func TestIndexOfAll256(t *testing.T) {
	at := Index(singles())
	for b := range 256 {
		if int(at[b]) != b {
			t.Errorf("byte %d is in part %d", b, at[b])
		}
	}
}

// Any sets may be asked for, not only those that Refine answers.
func TestIndexOfOthers(t *testing.T) {
	if Index(nil) != [256]uint8{} || Index([]set.Set{}) != [256]uint8{} {
		t.Error("of no parts")
	}
	if Index([]set.Set{{}, {}}) != [256]uint8{} {
		t.Error("of empty parts")
	}
	parts := []set.Set{set.Of('x'), set.From('a', 'f'), {}, set.From('d', 'z')}
	before := slices.Clone(parts)
	at := Index(parts)
	for b := range 256 {
		want := uint8(0)
		for i, p := range parts {
			if p.Has(byte(b)) {
				want = uint8(i)
			}
		}
		if at[b] != want {
			t.Errorf("byte %d: part %d, not %d", b, at[b], want)
		}
	}
	if at['c'] != 1 || at['e'] != 3 || at['x'] != 3 || at['A'] != 0 {
		t.Error(at)
	}
	if !slices.Equal(before, parts) {
		t.Errorf("Index turned its parts into %x", parts)
	}
	last := make([]set.Set, 256)
	last[0], last[255] = set.All(), set.Of(0, 63, 64, 255)
	at = Index(last)
	if at[0] != 255 || at[63] != 255 || at[64] != 255 || at[255] != 255 || at[1] != 0 {
		t.Error(at)
	}
}

// Of more than 256 parts nothing is told but that the call ends and doesn't panic.
func TestIndexOfTooMany(t *testing.T) {
	Index(append(singles(), singles()...))
	Index(make([]set.Set, 1000))
}
