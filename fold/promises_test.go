package fold_test

import (
	"math/rand"
	"strings"
	"testing"

	"bookplate/fold"
	"bookplate/normal"
	rep "bookplate/repertoire"
)

// forStrings calls a check for every character alone and with each mark, and for many longer encoded strings.
func forStrings(seed int64, check func(m *model, g *rand.Rand, s string)) {
	m := newModel()
	g := rand.New(rand.NewSource(seed))
	check(m, g, "")
	for _, c := range m.list {
		check(m, g, string(c))
		check(m, g, "a"+string(c)+"b")
		for _, mark := range m.marks {
			check(m, g, string([]rune{c, mark}))
			check(m, g, string([]rune{c, mark, m.marks[g.Intn(len(m.marks))]}))
		}
	}
	for i := range 10000 {
		check(m, g, m.anyEncoded(g, []int{4, 8, 40}[i%3]))
		check(m, g, m.anyForm(g, 5))
	}
}

func TestP6_2Again(t *testing.T) {
	forStrings(65, func(_ *model, _ *rand.Rand, s string) {
		folded, form := fold.Fold(s), fold.Search(s)
		if again := fold.Fold(folded); again != folded {
			t.Fatalf("%+q: the folded form of %+q is %+q", s, folded, again)
		}
		if again := fold.Search(form); again != form {
			t.Fatalf("%+q: the search form of %+q is %+q", s, form, again)
		}
		if again := fold.Search(folded); again != form {
			t.Fatalf("%+q: the search form of %+q is %+q, want %+q", s, folded, again, form)
		}
		if fold.Is(form) != (form != "") || fold.Alike(s, form) != (form != "") || fold.Alike(s, folded) != (form != "") {
			t.Fatalf("%+q: %+q is not taken for a search form", s, form)
		}
		if again := fold.Fold(form); again != form {
			t.Fatalf("%+q: the folded form of %+q is %+q", s, form, again)
		}
	})
}

func TestP6_3EqualStrings(t *testing.T) {
	different := 0
	forStrings(66, func(m *model, g *rand.Rand, s string) {
		for _, other := range []string{m.anyEqual(g, s), normal.Compose(s), normal.Decompose(s)} {
			if !normal.Equal(s, other) {
				t.Fatalf("%+q and %+q are not equal", s, other)
			}
			if fold.Fold(s) != fold.Fold(other) || fold.Search(s) != fold.Search(other) {
				t.Fatalf("%+q: %+q, %+q, but %+q: %+q, %+q", s, fold.Fold(s), fold.Search(s), other, fold.Fold(other), fold.Search(other))
			}
			if fold.Alike(s, other) != (fold.Search(s) != "") {
				t.Fatalf("%+q and %+q: %v", s, other, fold.Alike(s, other))
			}
			if s != other {
				different++
			}
		}
	})
	if different < 10000 {
		t.Error("the strings are too much alike:", different)
	}
}

// Equal strings are not the only ones with the same folded form; those that are not are told apart by more than case.
func TestP6_3OtherStrings(t *testing.T) {
	for _, c := range []struct {
		a, b string
		same bool
	}{
		{"é", "e\u0301", true}, {"ﬁ", "fi", true}, {"\uFF21", "A", true}, {"ç\u0301", "ć\u0327", true}, {"a\u0323\u0301", "á\u0323", true}, {" ", "\u00A0", true}, {"²", "2", true}, {"ſ", "s", true}, {"Й", "И\u0306", true},
		{"É", "é", true}, {"ß", "SS", true}, {"ς", "Σ", true},
		{"é", "e", false}, {"ł", "l", false}, {"æ", "ae", false}, {"ı", "i", false}, {"a\u0301\u0300", "a\u0300\u0301", false}, {"a!", "a", false}, {"a ", "a", false}, {"a  b", "a b", false}, {"ss", "s", false},
	} {
		if same := fold.Fold(c.a) == fold.Fold(c.b); same != c.same {
			t.Errorf("%+q, %+q: %v", c.a, c.b, same)
		}
	}
}

func TestP6_4Characters(t *testing.T) {
	words := 0
	forStrings(67, func(_ *model, _ *rand.Rand, s string) {
		form := fold.Search(s)
		if strings.HasPrefix(form, " ") || strings.HasSuffix(form, " ") || strings.Contains(form, "  ") {
			t.Fatalf("%+q: the spaces of %+q", s, form)
		}
		for _, c := range form {
			if !strings.ContainsRune(searchLetters+"0123456789 ", c) {
				t.Fatalf("%+q: %q of %+q", s, c, form)
			}
			if c != ' ' && (fold.Lower(int(c)) != int(c) || normal.Decompose(string(c)) != string(c)) {
				t.Fatalf("%+q: %q of %+q is no small letter without marks, and no digit", s, c, form)
			}
		}
		if normal.Marks(form) != 0 || strings.Contains(form, " ") && !rep.Valid(form) && len(form) <= 400 {
			t.Fatalf("%+q: %+q", s, form)
		}
		words += strings.Count(form, " ")
	})
	if words < 10000 {
		t.Error("the strings have too few words:", words)
	}
}

// A form with a character of any other kind is not a search form.
func TestP6_4OtherCharacters(t *testing.T) {
	for _, c := range newModel().list {
		own := strings.ContainsRune(searchLetters+"0123456789", c)
		if fold.Is(string(c)) != own || fold.Is("a"+string(c)) != own || fold.Is("a"+string(c)+"b") != (own || c == ' ') {
			t.Errorf("%+q: %v, %v, %v", c, fold.Is(string(c)), fold.Is("a"+string(c)), fold.Is("a"+string(c)+"b"))
		}
	}
}

func TestP6_5Joining(t *testing.T) {
	forStrings(68, func(m *model, g *rand.Rand, a string) {
		for _, b := range []string{m.anyEncoded(g, 6), m.anyForm(g, 3), []string{"", "!", "\u0301b", a}[g.Intn(4)]} {
			both, joined := fold.Search(a+" "+b), fold.Join([]string{a, b})
			if both != joined {
				t.Fatalf("%+q and %+q: %+q, but joined %+q", a, b, both, joined)
			}
			if back := fold.Search(b + " " + a); back != fold.Join([]string{b, a}) {
				t.Fatalf("%+q and %+q: %+q, but joined %+q", b, a, back, fold.Join([]string{b, a}))
			}
			if three := fold.Join([]string{a, b, a}); three != fold.Search(a+" "+b+" "+a) || three != fold.Join([]string{joined, a}) {
				t.Fatalf("%+q and %+q: three joined are %+q", a, b, three)
			}
		}
	})
}

func TestP6_6OrderOfSteps(t *testing.T) {
	replaced := 0
	forStrings(69, func(_ *model, _ *rand.Rand, s string) {
		folded, form := fold.Fold(s), fold.Search(s)
		check := func(other string) {
			if fold.Fold(other) != folded || fold.Search(other) != form {
				t.Fatalf("%+q: %+q, %+q, but %+q: %+q, %+q", s, folded, form, other, fold.Fold(other), fold.Search(other))
			}
		}
		l := []rune(s)
		for i, c := range l {
			small := rune(fold.Lower(int(c)))
			if small != c {
				check(string(l[:i]) + string(small) + string(l[i+1:]))
				replaced++
			}
		}
		for i, c := range l {
			l[i] = rune(fold.Lower(int(c)))
		}
		check(string(l))
	})
	if replaced < 10000 {
		t.Error("the strings have too few capital letters:", replaced)
	}
}
