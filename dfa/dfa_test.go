package dfa

import (
	"math"
	"strings"
	"sync"
	"testing"

	"periscope/deriv"
	"periscope/re"
	"periscope/text"
)

func TestNoSuchState(t *testing.T) {
	d := build(t, read(t, "a*b?"))
	for _, q := range []int{-1, -2, d.Len(), d.Len() + 1, math.MinInt, math.MaxInt} {
		for _, c := range []byte{0, 'a', 'b', 255} {
			if d.Step(q, c) != -1 {
				t.Error("Step from", q)
			}
		}
		if d.Yes(q) || d.Live(q) || d.Run(q, "a") != -1 || d.Run(q, "aab\x00") != -1 {
			t.Error("state", q)
		}
		if d.Run(q, "") != q {
			t.Error("no step at all, from", q)
		}
	}
	if q := d.Len() - 1; d.Step(q, 'a') < 0 || d.Run(q, "ab") < 0 {
		t.Error("the last state is one")
	}
}

func TestNilDfa(t *testing.T) {
	for _, d := range []*Dfa{nil, new(Dfa)} {
		if d.Len() != 0 || len(d.Heads()) != 0 || d.Match("") || d.Match("a") {
			t.Error("a Dfa of no states")
		}
		for _, q := range []int{-1, 0, 1} {
			if d.Step(q, 'a') != -1 || d.Yes(q) || d.Live(q) || d.Run(q, "a") != -1 || d.Run(q, "") != q {
				t.Error("state", q)
			}
		}
	}
}

func TestMatchByHand(t *testing.T) {
	for _, c := range []struct{ r, yes, no string }{
		{"(ab)*", " ab abab ababab", "a b ba aba abb aab"},
		{"()", " ", "a aa"},
		{"a*b", "b ab aab", " a ba abb"},
		{".*-abc", " a ab abcd abca babc", "abc"},
		{"(a|b)*&.*aa.*-.*bb.*", "aa aab baa abaa", " a ab bb aabb bbaa"},
		{"a?a?a?aaa", "aaa aaaa aaaaa aaaaaa", "a aa aaaaaaa"},
		{"[^a]", "b \xff \x00", "a bb "},
		{`\xc3\xa4`, "\xc3\xa4", "\xc3 \xa4 \u00c3\u00a4 "},
	} {
		d := build(t, read(t, c.r))
		for _, s := range strings.Split(c.yes, " ") {
			if !d.Match(s) {
				t.Errorf("%s hasn't %q", c.r, s)
			}
		}
		for _, s := range strings.Split(c.no, " ") {
			if d.Match(s) {
				t.Errorf("%s has %q", c.r, s)
			}
		}
	}
}

func TestMatch(t *testing.T) {
	met := [2]int{}
	for _, r := range samples(1200) {
		d := build(t, r)
		for _, s := range words() {
			want := has(r, s)
			if d.Match(s) != want {
				t.Fatalf("%s, %q: %v", text.Of(r), s, !want)
			}
			if want {
				met[1]++
			} else {
				met[0]++
			}
		}
	}
	if met[0] < 10000 || met[1] < 5000 {
		t.Error(met)
	}
}

// Run is Step by Step, from each state on, and Yes there is what stands behind the text.
func TestRun(t *testing.T) {
	for _, r := range samples(400) {
		d := build(t, r)
		for q := range d.Len() {
			for _, s := range []string{"", "a", "ab", "cba", "\x00\xffa", "abcab"} {
				want := q
				for i := range len(s) {
					want = d.Step(want, s[i])
				}
				if d.Run(q, s) != want || d.Run(d.Run(q, s), "ba") != d.Run(q, s+"ba") {
					t.Fatalf("%s, Run of %q from %d: %d", text.Of(r), s, q, d.Run(q, s))
				}
			}
		}
		for _, s := range words() {
			if d.Yes(d.Run(0, s)) != deriv.Match(r, s) {
				t.Fatalf("%s, %q", text.Of(r), s)
			}
		}
	}
}

func TestMatchLong(t *testing.T) {
	d := build(t, read(t, "((a|b)*&.*ab.*-.*bbbb.*)c?"))
	long := strings.Repeat("abba", 1<<14)
	if !d.Match(long) || !d.Match(long+"c") || d.Match(long+"cc") || d.Match(long+"bbbb") || d.Match("bbbb"+long) {
		t.Error("a long text")
	}
}

func TestLiveByHand(t *testing.T) {
	for _, c := range []struct {
		r, text string
		want    bool
	}{
		{"(ab)*", "", true},
		{"(ab)*", "a", true},
		{"(ab)*", "b", false},
		{"(ab)*", "aa", false},
		{"[]", "", false},
		{"()", "", true},
		{"()", "a", false},
		// There are many states, and no text at all.
		{"(aa)*a&(aa)*", "", false},
		{"(aa)*a&(aa)*", "aaa", false},
		{".*-.*", "", false},
		{"(a|b)*-(a*b*)*", "abab", false},
		{"abc-ab.", "ab", false},
		{"ab.-abc", "ab", true},
		{"ab.-abc", "abc", false},
		{"ab.-abc", "abd", true},
	} {
		d := build(t, read(t, c.r))
		if d.Live(d.Run(0, c.text)) != c.want {
			t.Errorf("%s behind %q: Live is %v", c.r, c.text, !c.want)
		}
	}
}

func TestLive(t *testing.T) {
	met := [2]int{}
	for _, r := range samples(1000) {
		m := modelOf(r, 40)
		if m == nil {
			continue
		}
		d := build(t, r)
		for q, want := range m.live() {
			if d.Live(q) != want {
				t.Fatalf("%s, state %d: Live is %v", text.Of(r), q, !want)
			}
			if want {
				met[1]++
			} else {
				met[0]++
			}
		}
	}
	if met[0] < 800 || met[1] < 2000 {
		t.Error(met)
	}
}

// Live may be asked by several at a time, the first time too.
func TestLiveOfSeveral(t *testing.T) {
	for range 50 {
		d := build(t, read(t, "(a|b)*abb"))
		var all sync.WaitGroup
		for range 6 {
			all.Go(func() {
				for q := range d.Len() {
					if d.Live(q) != (q != d.Step(0, 'x')) {
						t.Error("Live of", q)
					}
				}
			})
		}
		all.Wait()
	}
}

// Live leaves all else as it is, Yes too.
func TestLiveTurnsNothing(t *testing.T) {
	d := build(t, re.Word("ab"))
	for range 2 {
		if !d.Live(0) || d.Yes(0) || d.Match("") || d.Match("a") || !d.Match("ab") {
			t.Error("Live")
		}
	}
}

func TestHeadsAreNew(t *testing.T) {
	d := build(t, re.Word("ab"))
	d.Heads()[1] = 'z'
	if string(d.Heads()) != "\x00ab" || !d.Match("ab") {
		t.Errorf("%q", d.Heads())
	}
}
