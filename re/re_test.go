package re

import (
	"cmp"
	"reflect"
	"slices"
	"strings"
	"sync"
	"testing"

	"periscope/set"
)

func TestNull(t *testing.T) {
	raw, kept := samples(3000)
	met := [2]int{}
	for i, r := range kept {
		want := has(raw[i], "")
		if r.Null() != want || raw[i].Null() != want {
			t.Errorf("Null of %s: %v", show(raw[i]), r.Null())
		}
		if want {
			met[0]++
		} else {
			met[1]++
		}
	}
	if met[0] < 100 || met[1] < 100 {
		t.Error(met)
	}
}

func TestNil(t *testing.T) {
	var none *Re
	if none.Null() || none.Key() != "" || none.Size() != 0 || none.Back() != nil {
		t.Error("a call of nil")
	}
	if none.With() != nil || none.With(Word("a")) != nil || none.With(nil, nil) != nil {
		t.Error("With of nil")
	}
	if !none.Same(nil) || none.Same(Word("a")) || Word("a").Same(nil) || none.Same(Nothing()) || Nothing().Same(nil) {
		t.Error("Same of nil")
	}
}

// TestKey is P3.3's own words, of all pairs of many expressions.
func TestKey(t *testing.T) {
	_, kept := samples(700)
	kept = slices.DeleteFunc(kept, func(r *Re) bool { return r == nil })
	kidKeys := func(r *Re) []string {
		var list []string
		for _, k := range r.Kids {
			list = append(list, k.Key())
		}
		return list
	}
	same := 0
	for i, x := range kept {
		for j, y := range kept {
			want := x.Op == y.Op && x.Set == y.Set && slices.Equal(kidKeys(x), kidKeys(y))
			if (x.Key() == y.Key()) != want || x.Same(y) != want {
				t.Fatalf("%s and %s: %v", show(x), show(y), x.Same(y))
			}
			if x.compare(y) != cmp.Compare(x.Key(), y.Key()) {
				t.Fatalf("the order of %s and %s: %d", show(x), show(y), x.compare(y))
			}
			if want && i != j {
				same++
			}
		}
	}
	if same < 100 {
		t.Error("too few that are the same:", same)
	}
}

// Expressions that are nearly the same: neither sets nor where kids end may be confused.
func TestKeysApart(t *testing.T) {
	a, b, c := Many(Word("a")), Many(Word("b")), Many(Word("c"))
	d, e, f, g := But(a, b), But(b, c), But(c, b), But(c, a)
	list := []*Re{
		Nothing(), Empty(), a, b, Many(Then(a, b)), Many(Any(a, b)), Many(Both(a, b)), Then(a, b), Then(b, a), Then(a, a), Then(a, b, c),
		Then(Any(a, b), c), Then(a, Any(b, c)), Any(Then(a, b), c), Any(Then(a, c), b), Any(a, b, c), Both(a, b, c), Both(a, Any(b, c)),
		Any(a, Both(b, c)), But(a, b), But(b, a), But(But(a, b), c), But(a, But(b, c)), Then(But(a, b), c), But(Then(a, b), c),
		But(a, Then(b, c)), Then(a, But(b, c)), Then(Many(Then(a, b)), c), Many(Then(a, b, c)), Then(Both(a, b), c), Word("ab"), Word("ba"), Word("aab"),
	}
	for _, op := range []Op{Cat, Or, And} {
		for _, in := range []Op{Cat, Or, And} {
			if op != in {
				list = append(list, call(op, []*Re{call(in, []*Re{d, e}), f, g}), call(op, []*Re{call(in, []*Re{d, e, f}), g}))
				list = append(list, call(op, []*Re{d, call(in, []*Re{e, f, g})}), call(op, []*Re{d, call(in, []*Re{e, f}), g}))
			}
		}
	}
	for low := range 256 {
		for _, high := range []int{low, 63, 64, 128, 255} {
			if s := set.From(byte(low), byte(high)); !s.Empty() {
				list = append(list, One(s), One(s.Not()))
			}
		}
	}
	list = slices.DeleteFunc(list, func(r *Re) bool { return r.Op == None && r != list[0] })
	keys := make([]string, len(list))
	for i, x := range list {
		keys[i] = x.Key()
	}
	for i, x := range list {
		for j, y := range list {
			want := x.Op == y.Op && x.Set == y.Set && (x == y || x.Op == Class)
			if x.Same(y) != want || (keys[i] == keys[j]) != want {
				t.Fatalf("%s and %s: %v", show(x), show(y), x.Same(y))
			}
			if x.compare(y) != cmp.Compare(keys[i], keys[j]) {
				t.Fatalf("the order of %s and %s: %d", show(x), show(y), x.compare(y))
			}
		}
	}
}

func TestKeyOfEveryOther(t *testing.T) {
	var s set.Set
	for b := range 128 {
		s = s.Or(set.Of(byte(2 * b)))
	}
	x, y := One(s), One(s.Not())
	if x.Same(y) || x.Key() == y.Key() || !x.Same(One(s)) || x.compare(y) != cmp.Compare(x.Key(), y.Key()) {
		t.Error("a class of 128 runs")
	}
}

func count(r *Re) int {
	if r == nil {
		return 0
	}
	n := 1
	for _, k := range r.Kids {
		n += count(k)
	}
	return n
}

func TestSize(t *testing.T) {
	raw, kept := samples(2000)
	for i := range kept {
		if kept[i].Size() != count(kept[i]) || raw[i].Size() != count(raw[i]) {
			t.Errorf("Size of %s: %d", show(raw[i]), raw[i].Size())
		}
	}
	if n := Then(Many(Word("ab")), But(Empty(), Word("c"))).Size(); n != 8 {
		t.Error(n)
	}
}

func TestWith(t *testing.T) {
	a, b := Many(Word("a")), Word("bc")
	cat, or, and, star, minus := Then(a, b), Any(a, b), Both(a, b), Many(b), But(a, b)
	for _, kids := range [][]*Re{nil, {}, {a}, {nil}, {a, b}, {b, a}, {a, a}, {nil, a}, {a, nil}, {a, b, Empty()}, {Word("a"), Word("b"), a, a}} {
		for _, c := range []struct{ r, want *Re }{
			{cat, Then(kids...)}, {or, Any(kids...)}, {and, Both(kids...)},
			{Nothing(), Nothing()}, {Empty(), Empty()}, {Word("a"), Word("a")},
		} {
			if got := c.r.With(kids...); !got.Same(c.want) {
				t.Errorf("With of %s: %s", show(c.r), show(got))
			}
		}
		want := star
		if len(kids) == 1 {
			want = Many(kids[0])
		}
		if !star.With(kids...).Same(want) {
			t.Errorf("With of a Star and %d", len(kids))
		}
		want = minus
		if len(kids) == 2 {
			want = But(kids[0], kids[1])
		}
		if !minus.With(kids...).Same(want) {
			t.Errorf("With of a Minus and %d", len(kids))
		}
	}
	_, kept := samples(500)
	for _, r := range kept {
		if r != nil && !r.With(r.Kids...).Same(r) {
			t.Errorf("With of its own kids: %s", show(r))
		}
	}
}

func TestBack(t *testing.T) {
	raw, kept := samples(1500)
	for i, r := range kept {
		back := r.Back()
		if r == nil {
			if back != nil {
				t.Error("Back of nil")
			}
			continue
		}
		wantSettled(t, back)
		if back.Size() != r.Size() || !back.Back().Same(r) || !raw[i].Back().Same(back) && raw[i].Op != None {
			t.Errorf("Back of %s: %s", show(r), show(back))
		}
		for _, s := range words() {
			if has(back, s) != has(r, backward(s)) {
				t.Fatalf("Back of %s: %q", show(r), s)
			}
		}
	}
	if x := Then(Word("ab"), Many(Word("cd")), Word("e")).Back(); !x.Same(Then(Word("e"), Many(Word("dc")), Word("ba"))) {
		t.Error(show(x))
	}
	if x := Any(Word("ab"), Both(Many(Word("cd")), But(Word("xyz"), Word("uv")))).Back(); !x.Same(Any(Word("ba"), Both(Many(Word("dc")), But(Word("zyx"), Word("vu"))))) {
		t.Error(show(x))
	}
}

// Expressions that were written out by hand have the texts that P3.1 says, and calls of them settle.
func TestByHand(t *testing.T) {
	raw, kept := samples(1500)
	a := Many(Word("ab"))
	for i, r := range raw {
		m := kept[i]
		for _, c := range []struct{ got, want *Re }{
			{Then(r, a), Then(m, a)}, {Any(a, r), Any(a, m)}, {Both(r, a), Both(m, a)}, {Many(r), Many(m)}, {But(a, r), But(a, m)}, {But(r, a), But(m, a)},
			{a.With(r), a.With(m)},
		} {
			wantSettled(t, c.got)
			if !c.got.Same(c.want) {
				t.Fatalf("of %s: %s, not %s", show(r), show(c.got), show(c.want))
			}
		}
	}
}

// Even those that aren't made as P3.1 says do no harm.
func TestOdd(t *testing.T) {
	a := Word("a")
	odd := []*Re{
		{Op: Star}, {Op: Minus}, {Op: Cat}, {Op: Or}, {Op: And}, {Op: Class}, {Op: 8}, {Op: -1}, {Op: 1 << 40}, {Op: 99, Kids: []*Re{a, nil}},
		{Op: Star, Kids: []*Re{nil}}, {Op: Star, Kids: []*Re{a, a}}, {Op: Minus, Kids: []*Re{a}}, {Op: Minus, Kids: []*Re{a, nil, a}},
		{Op: None, Kids: []*Re{a}}, {Op: Eps, Set: set.All()}, {Op: Cat, Set: set.All(), Kids: []*Re{nil, nil}}, {Op: Class, Kids: []*Re{a}},
	}
	for _, r := range odd {
		if r.Size() != count(r) {
			t.Errorf("Size of %v", r)
		}
		r.Key()
		r.Null()
		if !r.Same(r) {
			t.Errorf("%v isn't the same as itself", r)
		}
		wantSettled(t, r.Back())
		for _, o := range append(odd, nil, a) {
			r.Same(o)
			r.With(o)
			r.With(o, o)
			for op := Cat; op <= Minus; op++ {
				wantSettled(t, call(op, []*Re{r, o}))
			}
		}
	}
}

// A copy that is changed isn't what was copied any more.
func TestCopies(t *testing.T) {
	r := Then(Word("ab"), Many(Word("c")))
	x := *r
	x.Op = Or
	if x.Same(r) || x.Size() != r.Size() || !x.Null() || !Any(&x).Same(Any(Word("a"), Word("b"), Many(Word("c")))) {
		t.Error("a copy of another Op")
	}
	y := *r
	y.Kids = []*Re{Word("a"), nil}
	if y.Same(r) || y.Size() != 2 || y.Null() || Then(&y).Op != None {
		t.Error("a copy of other kids")
	}
	if z := *r; !z.Same(r) || !r.Same(&z) || z.Key() != r.Key() || !Then(&z).Same(r) {
		t.Error("a plain copy")
	}
}

// Calls answer the same each time, and leave what they are given as it is, even several at a time.
func TestNothingTurns(t *testing.T) {
	_, kept := samples(100)
	_, again := samples(100)
	var wait sync.WaitGroup
	for range 4 {
		wait.Go(func() {
			for i, r := range kept {
				r.Key()
				r.Null()
				r.Size()
				r.Back()
				Then(kept[i:]...)
				Any(kept[:i]...)
				Both(kept[i], r)
				But(r, Many(r))
			}
		})
	}
	wait.Wait()
	for i := range kept {
		if !reflect.DeepEqual(kept[i], again[i]) {
			t.Error("a call turned", show(again[i]))
		}
	}
}

func TestExample(t *testing.T) {
	a, b := Word("a"), Word("b")
	if r := Any(a, b); !r.Same(One(set.Of('a', 'b'))) || r.Op != Class || r.Set != set.Of('a', 'b') {
		t.Error(show(r))
	}
	if r := Then(Empty(), a); !r.Same(a) || strings.Compare(r.Key(), a.Key()) != 0 {
		t.Error(show(r))
	}
}
