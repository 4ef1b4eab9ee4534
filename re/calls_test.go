package re

import (
	"slices"
	"strings"
	"testing"

	"periscope/set"
)

func TestOpsInOrder(t *testing.T) {
	for i, op := range []Op{None, Eps, Class, Cat, Or, Star, And, Minus} {
		if int(op) != i {
			t.Errorf("Op %d is %d", i, op)
		}
	}
}

// By hand: what the calls make, down to the form of it.
func TestFormsByHand(t *testing.T) {
	a, b, ab := Word("a"), Word("b"), One(set.Of('a', 'b'))
	as := Many(a)
	for _, c := range []struct {
		name      string
		got, want *Re
	}{
		{"One of none", One(set.Set{}), Nothing()},
		{"Word of none", Word(""), Empty()},
		{"Word of one", Word("a"), One(set.Of('a'))},
		{"Word", Word("aba"), &Re{Op: Cat, Kids: []*Re{a, b, a}}},
		{"Then of none", Then(), Empty()},
		{"Then of one", Then(a), a},
		{"Then of Empty and a", Then(Empty(), a), a},
		{"Then of Empties", Then(Empty(), Empty()), Empty()},
		{"Then with Nothing", Then(a, Nothing(), b), Nothing()},
		{"Then with nil", Then(a, nil), Nothing()},
		{"Then of Thens", Then(Then(a, b), Empty(), Then(b, as)), &Re{Op: Cat, Kids: []*Re{a, b, b, as}}},
		{"Any of none", Any(), Nothing()},
		{"Any of one", Any(as), as},
		{"Any of a and b", Any(a, b), ab},
		{"Any with Nothing", Any(nil, as, Nothing()), as},
		{"Any of one twice", Any(as, as, Many(Word("a"))), as},
		{"Any of Empty twice", Any(Empty(), Empty()), Empty()},
		{"Any of Anys", Any(Any(a, as), b, Any(as, b)), &Re{Op: Or, Kids: []*Re{ab, as}}},
		{"Both of none", Both(), &Re{Op: Star, Kids: []*Re{{Op: Class, Set: set.All()}}}},
		{"Both of one", Both(as), as},
		{"Both of classes", Both(ab, a), a},
		{"Both of all bytes", Both(One(set.All()), One(set.All())), One(set.All())},
		{"Both of classes apart", Both(a, as, b), Nothing()},
		{"Both with Nothing", Both(as, Nothing()), Nothing()},
		{"Both with nil", Both(nil), Nothing()},
		{"Both of one twice", Both(as, as), as},
		{"Both of Boths", Both(Both(as, ab), Both(a, as)), &Re{Op: And, Kids: []*Re{a, as}}},
		{"Many", Many(a), &Re{Op: Star, Kids: []*Re{a}}},
		{"Many of Many", Many(as), as},
		{"Many of Empty", Many(Empty()), Empty()},
		{"Many of Nothing", Many(Nothing()), Empty()},
		{"Many of nil", Many(nil), Empty()},
		{"But", But(as, a), &Re{Op: Minus, Kids: []*Re{as, a}}},
		{"But of Nothing", But(Nothing(), a), Nothing()},
		{"But of nil", But(nil, a), Nothing()},
		{"But with Nothing", But(as, Nothing()), as},
		{"But with nil", But(as, nil), as},
		{"But of nil and nil", But(nil, nil), Nothing()},
		{"But of the same", But(as, Many(Word("a"))), Nothing()},
		{"But of classes", But(ab, b), a},
		{"But of classes, nothing left", But(a, ab), Nothing()},
	} {
		if c.got.Key() != c.want.Key() {
			t.Errorf("%s: %s, not %s", c.name, show(c.got), show(c.want))
		}
		if !c.got.Same(c.want) || !c.want.Same(c.got) {
			t.Errorf("%s: not the same", c.name)
		}
		wantSettled(t, c.got)
	}
}

func TestTextsAndForm(t *testing.T) {
	raw, kept := samples(3000)
	met := [8]int{}
	for i, r := range kept {
		sameTexts(t, "what was made", raw[i], r)
		if r == nil {
			continue
		}
		wantSettled(t, r)
		met[r.Op]++
	}
	for op, n := range met {
		if n < 20 {
			t.Errorf("only %d expressions of Op %d", n, op)
		}
	}
}

// Each call, of made expressions of all kinds, two by two.
func TestCallsOfTwo(t *testing.T) {
	_, kept := samples(60)
	for _, x := range kept {
		for _, y := range kept {
			for op := Cat; op <= Minus; op++ {
				raw := &Re{Op: op, Kids: []*Re{x, y}}
				got := call(op, raw.Kids)
				wantSettled(t, got)
				sameTexts(t, show(raw), raw, got)
			}
		}
	}
}

func TestOne(t *testing.T) {
	d := draw(9)
	for range 300 {
		s := set.Set{uint64(d.below(4)), uint64(d.below(3)) << 33, 0, uint64(d.below(2)) << 63}
		r := One(s)
		wantSettled(t, r)
		if r.Op == Class && r.Set != s || r.Op != Class && (r.Op != None || s != set.Set{}) {
			t.Errorf("One of %x: %s", s, show(r))
		}
	}
	for b := range 256 {
		r := One(set.Of(byte(b)))
		for c := range 256 {
			if has(r, string([]byte{byte(c)})) != (b == c) {
				t.Fatal(b, c)
			}
		}
	}
}

func TestWord(t *testing.T) {
	for _, w := range append(words(), "\xc3\xa4\x00\xff", strings.Repeat("ab", 50)) {
		r := Word(w)
		wantSettled(t, r)
		if !has(r, w) || has(r, w+"a") || w != "" && (has(r, w[1:]) || has(r, w[:len(w)-1])) {
			t.Errorf("Word of %q: %s", w, show(r))
		}
		for _, s := range words() {
			if has(r, s) != (s == w) {
				t.Errorf("%q is a text of Word of %q", s, w)
			}
		}
	}
}

func TestAnyOfAllBytes(t *testing.T) {
	var list []*Re
	for b := range 256 {
		list = append(list, One(set.Of(byte(255-b))))
	}
	if r := Any(list...); r.Op != Class || r.Set != set.All() {
		t.Error(show(r))
	}
	if r := Both(list...); r.Op != None {
		t.Error(show(r))
	}
}

// The order in which they are handed in makes nothing out.
func TestAnyAndBothInEachOrder(t *testing.T) {
	list := []*Re{Many(Word("a")), Empty(), Word("ab"), Word("b"), Word("aa"), But(Many(Word("b")), Empty()), Many(Word("bc")), Word("aab")}
	any1, both1 := Any(list...), Both(list...)
	d := draw(1)
	for range 200 {
		i, j := d.below(len(list)), d.below(len(list))
		list[i], list[j] = list[j], list[i]
		if !Any(list...).Same(any1) || !Both(list...).Same(both1) {
			t.Fatal("another order, another expression")
		}
		k := 1 + d.below(len(list)-1)
		if !Any(Any(list[:k]...), Any(list[k:]...)).Same(any1) || !Both(Both(list[:k]...), Both(list[k:]...)).Same(both1) {
			t.Fatal("put together in other steps, another expression")
		}
	}
	if len(any1.Kids) != 8 || len(both1.Kids) != 8 {
		t.Error(show(any1), show(both1))
	}
}

// Lists are neither turned nor kept: what is done to them afterwards isn't seen.
func TestListsAreNotKept(t *testing.T) {
	list := func() []*Re {
		return []*Re{Many(Word("b")), Word("ab"), Many(Word("a")), Word("ab"), Any(Word("aa"), Empty())}
	}
	for _, f := range []func(...*Re) *Re{Then, Any, Both, Then(Word("ab")).With, Any(Word("ab"), Empty()).With} {
		in, same := list(), list()
		got := f(in...)
		key := got.Key()
		for i := range in {
			if !in[i].Same(same[i]) {
				t.Error("a call turned its list")
			}
			in[i] = Word("xyz")
		}
		if got.Key() != key {
			t.Error("a call kept its list")
		}
	}
}

// The kids of what is handed in aren't turned, nor does an answer share its list with them.
func TestKidsAreNotShared(t *testing.T) {
	x, y := Then(Word("ab"), Many(Word("c"))), Any(Many(Word("a")), Word("bb"), Empty())
	z := Both(Many(Word("a")), Many(Word("aa")), But(Many(Word("b")), Word("b")))
	before := []string{x.Key(), y.Key(), z.Key()}
	for _, r := range []*Re{Then(x), Then(x, y), Then(y, x), Any(y, z), Any(y), Both(z, y), Both(z), Many(x), But(x, y), x.Back(), y.Back(), z.Back()} {
		for _, o := range []*Re{x, y, z} {
			if r != o && len(r.Kids) > 0 && slices.Contains([]**Re{&o.Kids[0], &o.Kids[1]}, &r.Kids[0]) {
				t.Error("an answer shares a list of kids")
			}
		}
	}
	if !slices.Equal(before, []string{x.Key(), y.Key(), z.Key()}) {
		t.Error("a call turned an expression")
	}
}

func TestGreat(t *testing.T) {
	w := strings.Repeat("abc\x00\xff", 13107)
	r := Word(w)
	if len(r.Kids) != len(w) || r.Size() != len(w)+1 || r.Null() {
		t.Error("a long word")
	}
	if b := r.Back(); !b.Same(Word(backward(w))) || b.Same(r) || !b.Back().Same(r) {
		t.Error("a long word, read from its end")
	}
	var list []*Re
	for i := range 5000 {
		list = append(list, Word(w[i%7:i%7+1+i%300]))
	}
	x := Any(list...)
	if n := len(x.Kids); n != 5*299+1 || x.Null() {
		t.Error(n, "kids of a great Or")
	}
	slices.Reverse(list)
	if !Any(list...).Same(x) {
		t.Error("a great Or, made the other way round")
	}
}

func TestDeep(t *testing.T) {
	build := func(last string) *Re {
		r := Word(last)
		for i := range 1 << 14 {
			switch i % 4 {
			case 0:
				r = Many(r)
			case 1:
				r = Then(Word("ab"), r)
			case 2:
				r = But(r, Word("c"))
			case 3:
				r = Any(r, Word("xy"))
			}
		}
		return r
	}
	x, y, z := build("a"), build("a"), build("b")
	if !x.Same(y) || x.Same(z) || x.Key() != y.Key() || x.Key() == z.Key() {
		t.Error("Same")
	}
	if x.Size() != 1+(1<<12)*(1+3+2+4) || x.Null() {
		t.Error("Size", x.Size())
	}
	if b := x.Back(); !b.Back().Same(x) || b.Same(x) {
		t.Error("Back")
	}
	deep := Empty()
	for range 1 << 15 {
		deep = Many(Then(Word("a"), deep))
	}
	if deep.Size() != 1<<15*3-1 || !deep.Null() || !deep.Back().Back().Same(deep) {
		t.Error("a deep one", deep.Size())
	}
}

// Parts that are used again and again count each time, up to the greatest int.
func TestSizeStays(t *testing.T) {
	r := Word("a")
	for i := range 100 {
		last := r.Size()
		r = Many(Then(r, Word("b"), r))
		if size := r.Size(); size < last || i < 20 && size != 2*last+3 {
			t.Fatal(i, last, size)
		}
	}
}
