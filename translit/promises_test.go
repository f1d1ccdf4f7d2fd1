package translit_test

import (
	"math/rand"
	"strings"
	"testing"
	"unicode/utf8"

	rep "bookplate/repertoire"
	"bookplate/translit"
)

func TestP7_2Reversible(t *testing.T) {
	g := rand.New(rand.NewSource(75))
	covered, changed := 0, 0
	check := func(l table, s string) {
		if !translit.Covers(l, s) {
			return
		}
		covered++
		there := translit.To(l, s)
		if back := translit.Back(l, there); back != s {
			t.Fatalf("%+q: %+q, %+q, back %+q", l, s, there, back)
		}
		if there != s {
			changed++
		}
	}
	for i := range 10000 {
		alphabet := anyAlphabet(g)
		l := anyReversible(g, alphabet, []int{2, 5, 80}[i%3])
		if !translit.Reversible(l) {
			t.Fatalf("%+q is not reversible", l)
		}
		check(l, "")
		check(l, anyCovered(g, l, 3))
		check(l, anyCovered(g, l, 12))
		check(l, anyWord(g, alphabet, 8))
	}
	for range 2000 {
		check(translit.Cyrillic(), anyCovered(g, translit.Cyrillic(), 30))
	}
	if covered < 15000 || changed < 10000 {
		t.Error("too few strings are covered:", covered, changed)
	}
}

// Without one of the two conditions, the way back may lead elsewhere.
func TestP7_2OtherTables(t *testing.T) {
	for _, c := range []struct {
		t    table
		s    string
		back string
	}{
		{pairs2("a", "x", "b", "x"), "b", "a"},
		{pairs2("a", "x", "b", "y", "c", "xy"), "ab", "c"},
		{pairs2("a", "b"), "b", "a"},
		{translit.Greek(), "ς", "σ"}, {translit.Greek(), "νγ", "γγ"}, {translit.Greek(), "πσ", "ψ"}, {translit.Cyrillic(), "h", "х"},
	} {
		if back := translit.Back(c.t, translit.To(c.t, c.s)); back != c.back {
			t.Errorf("%+q, %+q: %+q, want %+q", c.t, c.s, back, c.back)
		}
		if translit.Reversible(c.t) && translit.Covers(c.t, c.s) {
			t.Errorf("%+q is reversible and covers %+q", c.t, c.s)
		}
	}
}

func TestP7_3Longest(t *testing.T) {
	g := rand.New(rand.NewSource(76))
	several := 0
	for i := range 10000 {
		alphabet := anyAlphabet(g)
		l := anyTable(g, alphabet, []int{3, 12, 80}[i%3])
		for s := anyString(g, l, alphabet, 6); s != ""; {
			fit, long := 0, translit.Rule{}
			for _, r := range l {
				if strings.HasPrefix(s, r.From) {
					fit++
					if utf8.RuneCountInString(r.From) > utf8.RuneCountInString(long.From) {
						long = r
					}
				}
			}
			if fit == 0 {
				long.From = rep.Cut(s, 1)
				long.To = long.From
			}
			if fit > 1 {
				several++
			}
			rest := strings.TrimPrefix(s, long.From)
			if got, want := translit.To(l, s), long.To+translit.To(l, rest); got != want {
				t.Fatalf("%+q, %+q: %+q, want %+q", l, s, got, want)
			}
			if got, want := translit.Covers(l, s), fit > 0 && translit.Covers(l, rest); got != want {
				t.Fatalf("%+q, %+q: covered %v", l, s, got)
			}
			s = rest
		}
	}
	if several < 4000 {
		t.Error("the rules are too seldom beginnings of others:", several)
	}
}

// The way back is the way there with the opposite table, if that is valid.
func TestP7_3LongestBack(t *testing.T) {
	g := rand.New(rand.NewSource(77))
	for i := range 5000 {
		alphabet := anyAlphabet(g)
		l := anyTable(g, alphabet, []int{3, 12, 80}[i%3])
		s := anyString(g, l, alphabet, 8)
		if got, want := translit.Back(l, s), translit.To(opposite(l), s); got != want {
			t.Fatalf("%+q, %+q: %+q, want %+q", l, s, got, want)
		}
	}
}

func TestP7_4SingleCharacters(t *testing.T) {
	g := rand.New(rand.NewSource(78))
	check := func(l table, a, b string) {
		if both, each := translit.To(l, a+b), translit.To(l, a)+translit.To(l, b); both != each {
			t.Fatalf("%+q: %+q and %+q: %+q, one by one %+q", l, a, b, both, each)
		}
		if translit.Covers(l, a+b) != (translit.Covers(l, a) && translit.Covers(l, b)) {
			t.Fatalf("%+q: %+q and %+q: covered %v", l, a, b, translit.Covers(l, a+b))
		}
	}
	all := rep.List()
	for range 5000 {
		seen := map[string]bool{}
		var l table
		for range 1 + g.Intn(80) {
			from := string(rune(all[g.Intn(len(all))]))
			if !seen[from] {
				l = append(l, translit.Rule{From: from, To: anyWord(g, []rune(from+"aéж\u0301"), 6)})
			}
			seen[from] = true
		}
		alphabet := []rune("aéж\u0301x")
		check(l, anyString(g, l, alphabet, 5), anyString(g, l, alphabet, 5))
		check(l, anyCovered(g, l, 5), anyCovered(g, l, 5))
		check(translit.Cyrillic(), anyCovered(g, translit.Cyrillic(), 6), anyString(g, l, []rune(cyrillicSmall), 6))
	}
	// a From of two characters may lie in both strings
	if translit.To(translit.Greek(), "γ")+translit.To(translit.Greek(), "κ") == translit.To(translit.Greek(), "γκ") {
		t.Error("γκ is read as two letters")
	}
}

func TestP7_5Tables(t *testing.T) {
	cyrillic, greek := translit.Cyrillic(), translit.Greek()
	if !translit.Reversible(cyrillic) || translit.Reversible(greek) || !translit.Valid(greek) {
		t.Error("the Cyrillic table is not reversible, or the Greek one is")
	}
	g := rand.New(rand.NewSource(79))
	check := func(s string) {
		if !translit.Covers(cyrillic, s) {
			t.Fatalf("%+q is not covered", s)
		}
		for _, c := range translit.To(cyrillic, s) {
			if script, kind := rep.Class(int(c)); script == rep.Cyrillic || kind == 0 || c >= 0x400 && c < 0x500 {
				t.Fatalf("%+q becomes %+q", s, translit.To(cyrillic, s))
			}
		}
	}
	for _, r := range cyrillic {
		check(r.From)
	}
	for range 5000 {
		check(anyCovered(g, cyrillic, 20))
	}
	for _, c := range []rune("ЪЬЄІЇЎҐєіїўґ") {
		if translit.Covers(cyrillic, string(c)) || translit.To(cyrillic, string(c)) != string(c) {
			t.Errorf("%q is covered", c)
		}
	}
}

func TestP7_6Untouched(t *testing.T) {
	g := rand.New(rand.NewSource(80))
	untouched, near := 0, 0
	check := func(l table, s string) {
		for _, r := range l {
			if strings.Contains(s, r.From) {
				return
			}
		}
		untouched++
		for _, r := range l {
			if strings.Contains(s, rep.Cut(r.From, rep.Count(r.From)-1)) {
				near++
			}
		}
		if got := translit.To(l, s); got != s {
			t.Fatalf("%+q: %+q becomes %+q", l, s, got)
		}
		if translit.Covers(l, s) != (s == "") {
			t.Fatalf("%+q covers %+q", l, s)
		}
	}
	for i := range 10000 {
		alphabet := anyAlphabet(g)
		l := anyTable(g, alphabet, []int{2, 4, 12}[i%3])
		check(l, "")
		check(l, anyWord(g, alphabet, 6))
		check(l, anyString(g, l, alphabet, 2))
		check(l, anyWord(g, []rune("xyz ЪЬ\u0301é\uFF21"), 12))
	}
	for _, s := range []string{"Tolstoj", "ЪЬ", "ΑΒΓ", "i\u0306", "Її", "x²"} {
		check(translit.Cyrillic(), s)
		check(translit.Greek(), s)
	}
	if untouched < 10000 || near < 5000 {
		t.Error("too few strings are untouched:", untouched, near)
	}
}
