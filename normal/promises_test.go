package normal_test

import (
	"math/rand"
	"strings"
	"testing"

	"bookplate/normal"
	rep "bookplate/repertoire"
)

// forStrings calls a check for every character alone and with each mark, and for many longer encoded strings.
func forStrings(seed int64, check func(m *model, g *rand.Rand, s string)) {
	m := newModel()
	g := rand.New(rand.NewSource(seed))
	check(m, g, "")
	for _, c := range m.list {
		check(m, g, string(rune(c)))
		for _, mark := range m.marks {
			check(m, g, string([]rune{rune(c), mark}))
			check(m, g, string([]rune{rune(c), mark, m.marks[g.Intn(len(m.marks))]}))
		}
	}
	for i := range 20000 {
		check(m, g, m.anyEncoded(g, []int{4, 8, 40}[i%3]))
	}
}

func TestP5_2OwnForms(t *testing.T) {
	forStrings(52, func(_ *model, _ *rand.Rand, s string) {
		d, c := normal.Decompose(s), normal.Compose(s)
		if again := normal.Decompose(d); again != d {
			t.Fatalf("%+q: the decomposed form of %+q is %+q", s, d, again)
		}
		if again := normal.Compose(c); again != c || !normal.Is(c) {
			t.Fatalf("%+q: the composed form of %+q is %+q", s, c, again)
		}
		if (d == "") != (s == "") || (c == "") != (s == "") {
			t.Fatalf("%+q: %+q, %+q", s, d, c)
		}
	})
}

func TestP5_3SameForms(t *testing.T) {
	forStrings(53, func(_ *model, _ *rand.Rand, s string) {
		d, c := normal.Decompose(s), normal.Compose(s)
		if again := normal.Decompose(c); again != d {
			t.Fatalf("%+q: the decomposed form of %+q is %+q, want %+q", s, c, again, d)
		}
		if again := normal.Compose(d); again != c {
			t.Fatalf("%+q: the composed form of %+q is %+q, want %+q", s, d, again, c)
		}
	})
}

func checkEquality(t *testing.T, a, b string) {
	t.Helper()
	if equal := normal.Equal(a, b); equal != (normal.Compose(a) == normal.Compose(b)) || equal != (normal.Decompose(a) == normal.Decompose(b)) {
		t.Fatalf("%+q, %+q: %v, but %+q, %+q", a, b, equal, normal.Compose(a), normal.Compose(b))
	}
}

func TestP5_4Equality(t *testing.T) {
	equal := 0
	forStrings(54, func(m *model, g *rand.Rand, s string) {
		other := m.anyEqual(g, s)
		if !normal.Equal(s, other) || !normal.Equal(other, s) {
			t.Fatalf("%+q and %+q are not equal", s, other)
		}
		if s != other {
			equal++
		}
		checkEquality(t, s, other)
		checkEquality(t, s, m.anyEncoded(g, 4))
		checkEquality(t, s, s+string(m.anyCharacter(g)))
		for _, form := range []string{normal.Compose(s), normal.Decompose(s)} {
			if !normal.Equal(s, form) {
				t.Fatalf("%+q and %+q are not equal", s, form)
			}
		}
	})
	if equal < 5000 {
		t.Error("the strings are too much alike:", equal)
	}
}

func TestP5_4EveryTwoShortStrings(t *testing.T) {
	l := []string{"", "\xFF", "é\xFF"}
	for _, c := range []string{"", "c", "e", "é", "ç", "ﬁ", "f", "\u00A0"} {
		for _, a := range []string{"", "\u0301", "\u0327", "\u0323", "\u0303", "i"} {
			for _, b := range []string{"", "\u0301", "\u0327", "\u0323", "\u0328"} {
				l = append(l, c+a+b)
			}
		}
	}
	m := newModel()
	for _, a := range l {
		for _, b := range l {
			checkEqual(t, m, a, b)
			if encoded(a) && encoded(b) {
				checkEquality(t, a, b)
			}
		}
	}
}

// The order of marks matters exactly if they differ and have the same class.
func TestP5_4OrderOfMarks(t *testing.T) {
	m := newModel()
	g := rand.New(rand.NewSource(55))
	for _, a := range m.marks {
		for _, b := range m.marks {
			want := a == b || markClass(a) != markClass(b)
			for range 20 {
				before, behind := m.anyEncoded(g, 5), m.anyEncoded(g, 5)
				x, y := before+string([]rune{a, b})+behind, before+string([]rune{b, a})+behind
				if normal.Equal(x, y) != want || (normal.Compose(x) == normal.Compose(y)) != want {
					t.Fatalf("%+q, %+q: %v", x, y, !want)
				}
			}
		}
	}
}

func TestP5_5Parts(t *testing.T) {
	cut := 0
	forStrings(56, func(m *model, g *rand.Rand, s string) {
		l, _ := rep.Decode(s)
		for at := range len(l) + 1 {
			if at < len(l) && markClass(rune(l[at])) > 0 {
				continue
			}
			a, _ := rep.Encode(l[:at])
			b, _ := rep.Encode(l[at:])
			if both := normal.Decompose(a) + normal.Decompose(b); normal.Decompose(s) != both {
				t.Fatalf("%+q and %+q: %+q, want %+q", a, b, normal.Decompose(s), both)
			}
			cut++
		}
		other := strings.TrimLeftFunc(m.anyEncoded(g, 6), func(c rune) bool { return markClass(c) > 0 })
		if both := normal.Decompose(s) + normal.Decompose(other); normal.Decompose(s+other) != both {
			t.Fatalf("%+q and %+q: %+q, want %+q", s, other, normal.Decompose(s+other), both)
		}
	})
	if cut < 50000 {
		t.Error("the strings are too much alike:", cut)
	}
}

// A mark at the beginning of the second part may come ahead of those of the first one.
func TestP5_5PartsWithMarks(t *testing.T) {
	if s := normal.Decompose("é" + "\u0327"); s != "e\u0327\u0301" {
		t.Errorf("%+q", s)
	}
	if s := normal.Decompose("e\u0301\u0323" + "\u0328\u0327a"); s != "e\u0328\u0327\u0323\u0301a" {
		t.Errorf("%+q", s)
	}
}

func TestP5_6Stripping(t *testing.T) {
	forStrings(57, func(m *model, g *rand.Rand, s string) {
		stripped := normal.Strip(s)
		if normal.Marks(stripped) != 0 || strings.ContainsFunc(stripped, func(c rune) bool { return markClass(c) > 0 }) {
			t.Fatalf("%+q: %+q has marks", s, stripped)
		}
		if again := normal.Strip(stripped); again != stripped || normal.Decompose(stripped) != stripped {
			t.Fatalf("%+q: %+q, and then %+q", s, stripped, again)
		}
		for _, equal := range []string{m.anyEqual(g, s), normal.Compose(s), normal.Decompose(s)} {
			if normal.Strip(equal) != stripped || normal.Marks(equal) != normal.Marks(s) {
				t.Fatalf("%+q: %+q, but %+q: %+q", s, stripped, equal, normal.Strip(equal))
			}
		}
		if d := normal.Decompose(s); rep.Count(d) != rep.Count(stripped)+normal.Marks(s) {
			t.Fatalf("%+q: %d marks, %+q", s, normal.Marks(s), stripped)
		}
		if again := normal.Strip(s + string(m.marks[g.Intn(len(m.marks))])); again != stripped {
			t.Fatalf("%+q: %+q, with one more mark %+q", s, stripped, again)
		}
	})
}
