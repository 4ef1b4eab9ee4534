package lens

import (
	"math"
	"slices"
	"testing"

	"periscope/api"
	"periscope/re"
)

func TestOpsInOrder(t *testing.T) {
	for i, op := range []Op{Name, Re, Copy, Key, Const, Del, Ins, Or, Cat, Star, Swap, Seq, Inv, Dict, Left, Right, Keep, Norm} {
		if int(op) != i {
			t.Errorf("Op %d is %d", i, op)
		}
	}
}

func TestWord(t *testing.T) {
	want := map[Op]string{Copy: "copy", Key: "key", Const: "const", Del: "del", Ins: "ins", Swap: "swap", Inv: "inv", Dict: "dict",
		Left: "left", Right: "right", Keep: "keep", Norm: "norm"}
	for op := Op(-300); op < 300; op++ {
		if w := op.Word(); w != want[op] {
			t.Errorf("Op %d: %q, not %q", op, w, want[op])
		}
	}
	for _, op := range []Op{math.MinInt, math.MaxInt, 1 << 32, -1 << 32} {
		if w := op.Word(); w != "" {
			t.Errorf("Op %d: %q", op, w)
		}
	}
}

func TestOf(t *testing.T) {
	a, b := &Term{Op: Copy, Re: re.Word("a"), At: 7}, &Term{Op: Name, Name: "b"}
	for _, list := range [][]*Term{nil, {}, {a}, {a, b}, {b, nil, a}, {nil}} {
		for op := Op(-1); op < 20; op++ {
			x := Of(op, list...)
			if x.Op != op || !slices.Equal(x.Kids, list) {
				t.Errorf("Of(%d, %v): %v", op, list, x)
			}
			if x.At != 0 || x.Name != "" || x.Re != nil || x.Text != "" || x.Back != "" {
				t.Errorf("Of(%d, %v) is more than these: %v", op, list, x)
			}
		}
	}
}

// What is done to a list afterwards isn't seen in the term made of it, nor the other way round.
func TestOfKeepsNoList(t *testing.T) {
	a, b := &Term{Op: Name, Name: "a"}, &Term{Op: Name, Name: "b"}
	list := []*Term{a, b, a}
	x, y := Of(Cat, list[:2]...), Of(Cat, list[:2]...)
	list[0] = b
	y.Kids[1] = nil
	_ = append(x.Kids, b)
	if x.Kids[0] != a || x.Kids[1] != b || list[1] != b || list[2] != a {
		t.Error("a list is shared")
	}
}

func TestSame(t *testing.T) {
	d := draw(1)
	var terms []*Term
	for i := range 150 {
		terms = append(terms, someTerm(&d, i%4), wild(&d, i%3))
	}
	same := 0
	for _, x := range terms {
		if c := copied(x); !x.Same(c) || !c.Same(x) || !x.Same(x) {
			t.Errorf("%s isn't the same, elsewhere", dump(x))
		}
		for _, y := range terms {
			want := dump(x) == dump(y)
			if x.Same(y) != want {
				t.Errorf("%s and %s: %v", dump(x), dump(y), !want)
			}
			if want {
				same++
			}
		}
	}
	if same == len(terms) || same == len(terms)*len(terms) {
		t.Error("all the same, or all unlike")
	}
}

// Each field makes a term another one, and so does each part of it, whatever lies around it.
func TestSameAsksAll(t *testing.T) {
	changes := map[string]func(*Term){
		"Op":           func(x *Term) { x.Op++ },
		"Name":         func(x *Term) { x.Name += "x" },
		"Re":           func(x *Term) { x.Re = re.Any(x.Re, re.Word("zz")) },
		"Text":         func(x *Term) { x.Text += "x" },
		"Back":         func(x *Term) { x.Back += "x" },
		"one Kid more": func(x *Term) { x.Kids = append(x.Kids, &Term{}) },
		"a nil more":   func(x *Term) { x.Kids = append(x.Kids, nil) },
		"Text is Back": func(x *Term) { x.Text, x.Back = x.Back+"1", x.Text+"2" },
	}
	d := draw(2)
	for range 60 {
		x := someTerm(&d, 3)
		for i := range inOrder(x) {
			for name, f := range changes {
				y := copied(x)
				f(inOrder(y)[i])
				if x.Same(y) || y.Same(x) {
					t.Fatalf("%s, with another %s in part %d: the same", dump(x), name, i)
				}
			}
		}
	}
}

func TestSameByHand(t *testing.T) {
	a, b, none := &Term{Op: Copy, Re: re.Word("a")}, &Term{Op: Ins, Text: "b"}, (*Term)(nil)
	for _, c := range []struct {
		name string
		x, y *Term
		want bool
	}{
		{"nil and nil", nil, nil, true},
		{"nil and a term", nil, &Term{}, false},
		{"a term and nil", &Term{}, nil, false},
		{"no kids, in two ways", Of(Or), &Term{Op: Or, Kids: []*Term{}}, true},
		{"kids in order", Of(Or, a, b), Of(Or, a, b), true},
		{"kids the other way round", Of(Or, a, b), Of(Or, b, a), false},
		{"one kid fewer", Of(Or, a), Of(Or, a, a), false},
		{"nil for a kid", Of(Or, a, nil), Of(Or, a, b), false},
		{"nil for both", Of(Or, a, nil), Of(Or, a, none), true},
		{"At", &Term{Op: Name, Name: "x", At: 1}, &Term{Op: Name, Name: "x", At: 2}, true},
		{"At of a kid", Of(Star, &Term{At: 1}), Of(Star, &Term{At: 2}), true},
		{"one expression, made twice", &Term{Op: Re, Re: re.Any(re.Word("a"), re.Word("b"))}, &Term{Op: Re, Re: re.Any(re.Word("b"), re.Word("a"))}, true},
		{"other expressions", &Term{Op: Re, Re: re.Word("a")}, &Term{Op: Re, Re: re.Word("b")}, false},
		{"no expression, and an expression", &Term{Op: Re}, &Term{Op: Re, Re: re.Word("b")}, false},
		{"no expression, and Nothing", &Term{Op: Re}, &Term{Op: Re, Re: re.Nothing()}, (*re.Re)(nil).Same(re.Nothing())},
		{"of a kid, and of its Re", &Term{Op: Copy, Re: re.Word("a")}, Of(Copy, &Term{Op: Re, Re: re.Word("a")}), false},
		{"rows otherwise put together", Of(Cat, Of(Cat, a, b), a), Of(Cat, a, Of(Cat, b, a)), false},
	} {
		if c.x.Same(c.y) != c.want || c.y.Same(c.x) != c.want {
			t.Errorf("%s: not %v", c.name, c.want)
		}
	}
}

func TestSize(t *testing.T) {
	var none *Term
	a := &Term{Op: Copy, Re: re.Many(re.Word("abc")), Text: "abc"}
	for _, c := range []struct {
		x    *Term
		want int
	}{
		{none, 0}, {&Term{}, 1}, {a, 1}, {Of(Cat), 1}, {Of(Cat, nil, nil), 1}, {Of(Copy, &Term{Op: Name}), 2}, {Of(Cat, a, nil), 2}, {Of(Cat, a, a), 3},
		{Of(Star, Of(Or, Of(Cat, a, a), Of(Dict, a))), 7}, {Of(99, a, a, a, a), 5},
	} {
		if n := c.x.Size(); n != c.want {
			t.Errorf("%s: %d, not %d", dump(c.x), n, c.want)
		}
	}
	d := draw(3)
	for i := range 300 {
		x := someTerm(&d, i%6)
		if i%2 == 0 {
			x = wild(&d, i%4)
		}
		if n := x.Size(); n != len(inOrder(x)) {
			t.Errorf("%s: %d", dump(x), n)
		}
	}
}

func TestWalk(t *testing.T) {
	d := draw(4)
	for i := range 200 {
		x := someTerm(&d, i%5)
		if i%2 == 0 {
			x = wild(&d, i%4)
		}
		want := inOrder(x)
		for end := range len(want) + 1 {
			var met []*Term
			all := x.Walk(func(k *Term) bool {
				met = append(met, k)
				return len(met) != end+1
			})
			if all != (end == len(want)) {
				t.Fatalf("%s, ended at %d: %v", dump(x), end, all)
			}
			if !slices.Equal(met, want[:min(end+1, len(want))]) {
				t.Fatalf("%s, ended at %d: it comes to %d parts, or in another order", dump(x), end, len(met))
			}
		}
	}
}

func TestWalkOfNil(t *testing.T) {
	never := func(x *Term) bool { t.Error("nil is met"); return false }
	var none *Term
	if !none.Walk(never) {
		t.Error("nil tells false")
	}
	n := 0
	if !Of(Cat, nil, nil).Walk(func(x *Term) bool { n++; return x != nil }) || n != 1 {
		t.Error("kids of nil are met")
	}
}

// A part that stands at two places is met at both.
func TestSharedParts(t *testing.T) {
	x := &Term{Op: Name, Name: "x"}
	for range 10 {
		x = Of(Cat, x, x)
	}
	n := 0
	if !x.Walk(func(*Term) bool { n++; return true }) || n != 2047 || x.Size() != 2047 {
		t.Error(n, x.Size())
	}
}

// No call turns what is handed in.
func TestNothingIsTurned(t *testing.T) {
	d := draw(5)
	for i := range 200 {
		x, y := wild(&d, i%4), someTerm(&d, i%4)
		all := append(inOrder(x), inOrder(y)...)
		var at []api.Pos
		for _, k := range all {
			at = append(at, k.At)
		}
		before := dump(x) + dump(y)
		_, _ = x.String(), y.String()
		_, _, _, _ = x.Nest(), y.Nest(), x.Size(), y.Size()
		_, _ = x.Same(y), Of(Cat, x, y)
		if dump(x)+dump(y) != before {
			t.Fatal("a term was turned", before)
		}
		for j, k := range all {
			if k.At != at[j] {
				t.Fatal("a term was moved", before)
			}
		}
	}
}
