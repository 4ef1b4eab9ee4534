package set

import (
	"slices"
	"testing"
)

// samples are sets at the edges of words and of the bytes, and some with holes of many kinds.
func samples() []Set {
	list := []Set{
		{},
		{^uint64(0), ^uint64(0), ^uint64(0), ^uint64(0)},
		{1, 0, 0, 0},
		{1 << 63, 0, 0, 0},
		{0, 1, 0, 0},
		{0, 0, 0, 1 << 63},
		{1 << 63, 1, 0, 0},
		{1, 0, 0, 1 << 63},
		{0, ^uint64(0), 0, ^uint64(0)},
		{0x5555555555555555, 0x5555555555555555, 0x5555555555555555, 0x5555555555555555},
		{0xAAAAAAAAAAAAAAAA, 0xAAAAAAAAAAAAAAAA, 0xAAAAAAAAAAAAAAAA, 0xAAAAAAAAAAAAAAAA},
	}
	x := uint64(1)
	for range 40 {
		var s Set
		for i := range s {
			x = x*6364136223846793005 + 1442695040888963407
			s[i] = x ^ x>>29
		}
		list = append(list, s)
	}
	return list
}

// in is P1.1's own words for membership, which the other tests are held against.
func in(s Set, b int) bool {
	word := s[b/64]
	for range b % 64 {
		word /= 2
	}
	return word%2 == 1
}

func members(s Set) []byte {
	var list []byte
	for b := range 256 {
		if in(s, b) {
			list = append(list, byte(b))
		}
	}
	return list
}

func TestHas(t *testing.T) {
	for _, s := range samples() {
		for b := range 256 {
			if s.Has(byte(b)) != in(s, b) {
				t.Fatalf("%x has %d: %v", s, b, s.Has(byte(b)))
			}
		}
	}
}

func TestOf(t *testing.T) {
	for _, c := range []struct {
		list []byte
		want Set
	}{
		{nil, Set{}},
		{[]byte{}, Set{}},
		{[]byte{0}, Set{1}},
		{[]byte{63}, Set{1 << 63}},
		{[]byte{64}, Set{0, 1}},
		{[]byte{255}, Set{0, 0, 0, 1 << 63}},
		{[]byte{255, 64, 63, 0}, Set{1 | 1<<63, 1, 0, 1 << 63}},
		{[]byte{'a', 'b', 'a'}, Set{0, 3 << ('a' - 64)}},
		{[]byte{0, 0, 255, 255, 255}, Set{1, 0, 0, 1 << 63}},
	} {
		before := slices.Clone(c.list)
		if got := Of(c.list...); got != c.want {
			t.Errorf("Of %v: %x", c.list, got)
		}
		if !slices.Equal(before, c.list) {
			t.Errorf("Of turned its list into %v", c.list)
		}
	}
	if Of() != (Set{}) {
		t.Error("Of nothing")
	}
	for _, s := range samples() {
		if Of(members(s)...) != s {
			t.Errorf("Of the bytes of %x", s)
		}
	}
}

func TestFrom(t *testing.T) {
	for low := range 256 {
		for high := range 256 {
			s := From(byte(low), byte(high))
			for b := range 256 {
				if in(s, b) != (low <= b && b <= high) {
					t.Fatalf("From %d to %d: %d", low, high, b)
				}
			}
		}
	}
}

func TestAll(t *testing.T) {
	for b := range 256 {
		if !in(All(), b) {
			t.Errorf("All hasn't %d", b)
		}
	}
	if All().Len() != 256 || All().Empty() {
		t.Error("All's length")
	}
}

func TestOfTwo(t *testing.T) {
	for _, s := range samples() {
		for _, u := range samples() {
			a, b := s, u
			and, or, minus := s.And(u), s.Or(u), s.Minus(u)
			for i := range 256 {
				x, y := in(a, i), in(b, i)
				if in(and, i) != (x && y) || in(or, i) != (x || y) || in(minus, i) != (x && !y) {
					t.Fatalf("%x, %x: %d", a, b, i)
				}
			}
			if s != a || u != b {
				t.Fatal("an operation turned a set")
			}
		}
	}
}

func TestNot(t *testing.T) {
	for _, s := range samples() {
		for b := range 256 {
			if in(s.Not(), b) == in(s, b) {
				t.Fatalf("Not of %x: %d", s, b)
			}
		}
	}
}

func TestEmptyAndLen(t *testing.T) {
	for _, s := range samples() {
		n := len(members(s))
		if s.Len() != n || s.Empty() != (n == 0) {
			t.Errorf("%x: Len %d, Empty %v", s, s.Len(), s.Empty())
		}
	}
	for b := range 256 {
		if s := Of(byte(b)); s.Len() != 1 || s.Empty() {
			t.Errorf("the set of %d: Len %d, Empty %v", b, s.Len(), s.Empty())
		}
	}
}

func TestLeast(t *testing.T) {
	for _, s := range append(samples(), Of(255, 64), Of(64, 63), Of(255)) {
		list := members(s)
		b, ok := s.Least()
		if len(list) == 0 {
			if b != 0 || ok {
				t.Errorf("Least of none: %d, %v", b, ok)
			}
		} else if b != list[0] || !ok {
			t.Errorf("Least of %x: %d, %v", s, b, ok)
		}
	}
}

func TestBytes(t *testing.T) {
	for _, s := range samples() {
		seq := s.Bytes()
		// Twice, since what goes through a set once must do so again.
		for range 2 {
			if got := slices.Collect(seq); !slices.Equal(got, members(s)) {
				t.Errorf("Bytes of %x: %v", s, got)
			}
		}
	}
}

func TestBytesStop(t *testing.T) {
	for _, s := range samples() {
		list := members(s)
		for stop := 1; stop <= len(list); stop++ {
			var got []byte
			s.Bytes()(func(b byte) bool {
				got = append(got, b)
				return len(got) < stop
			})
			if !slices.Equal(got, list[:stop]) {
				t.Fatalf("Bytes of %x, stopped at %d: %v", s, stop, got)
			}
		}
	}
}

type run struct{ first, last byte }

// runsOf finds the runs by looking at each byte's neighbours.
func runsOf(s Set) []run {
	var list []run
	for b := range 256 {
		if !in(s, b) {
			continue
		}
		if b == 0 || !in(s, b-1) {
			list = append(list, run{byte(b), byte(b)})
		}
		list[len(list)-1].last = byte(b)
	}
	return list
}

func collectRuns(s Set) []run {
	var list []run
	for first, last := range s.Runs() {
		list = append(list, run{first, last})
	}
	return list
}

func TestRunsByHand(t *testing.T) {
	for _, c := range []struct {
		s    Set
		want []run
	}{
		{Set{}, nil},
		{All(), []run{{0, 255}}},
		{Of(0), []run{{0, 0}}},
		{Of(255), []run{{255, 255}}},
		{Of(0, 255), []run{{0, 0}, {255, 255}}},
		{Of(63, 64), []run{{63, 64}}},
		{Of(63, 65), []run{{63, 63}, {65, 65}}},
		{From(1, 254), []run{{1, 254}}},
		{Of(64).Not(), []run{{0, 63}, {65, 255}}},
		{Of('x', 'c', 'a', 'b'), []run{{'a', 'c'}, {'x', 'x'}}},
	} {
		if got := collectRuns(c.s); !slices.Equal(got, c.want) {
			t.Errorf("Runs of %x: %v", c.s, got)
		}
	}
}

func TestRuns(t *testing.T) {
	for _, s := range samples() {
		seq := s.Runs()
		for range 2 {
			var got []run
			seq(func(first, last byte) bool {
				got = append(got, run{first, last})
				return true
			})
			if !slices.Equal(got, runsOf(s)) {
				t.Errorf("Runs of %x: %v", s, got)
			}
		}
	}
}

func TestRunsStop(t *testing.T) {
	for _, s := range samples() {
		list := runsOf(s)
		for stop := 1; stop <= len(list); stop++ {
			var got []run
			s.Runs()(func(first, last byte) bool {
				got = append(got, run{first, last})
				return len(got) < stop
			})
			if !slices.Equal(got, list[:stop]) {
				t.Fatalf("Runs of %x, stopped at %d: %v", s, stop, got)
			}
		}
	}
}

// A walk goes through the set as it was when the walk was asked for.
func TestWalkKeepsItsSet(t *testing.T) {
	s := Of('a', 'b')
	bytes, runs := s.Bytes(), s.Runs()
	s = Of('z')
	if got := slices.Collect(bytes); !slices.Equal(got, []byte("ab")) {
		t.Error(got)
	}
	for first, last := range runs {
		if first != 'a' || last != 'b' {
			t.Error(first, last)
		}
	}
	if s != Of('z') {
		t.Error(s)
	}
}
