package normal_test

import (
	"math/rand"
	"strings"
	"testing"

	"bookplate/normal"
)

// P5.1

// checkString compares everything that is said about a string with the model.
func checkString(t *testing.T, m *model, s string) {
	t.Helper()
	if got, want := normal.Decompose(s), m.decompose(s); got != want {
		t.Fatalf("Decompose(%+q) = %+q, want %+q", s, got, want)
	}
	composed := m.compose(s)
	if got := normal.Compose(s); got != composed {
		t.Fatalf("Compose(%+q) = %+q, want %+q", s, got, composed)
	}
	if got, want := normal.Is(s), encoded(s) && s == composed; got != want {
		t.Fatalf("Is(%+q) = %v, want %v", s, got, want)
	}
	if got, want := normal.Strip(s), m.strip(s); got != want {
		t.Fatalf("Strip(%+q) = %+q, want %+q", s, got, want)
	}
	if got, want := normal.Marks(s), m.countMarks(s); got != want {
		t.Fatalf("Marks(%+q) = %d, want %d", s, got, want)
	}
	if got, want := normal.Equal(s, s), encoded(s); got != want {
		t.Fatalf("Equal(%+q, the same) = %v", s, got)
	}
}

func checkEqual(t *testing.T, m *model, a, b string) {
	t.Helper()
	want := encoded(a) && encoded(b) && m.decompose(a) == m.decompose(b)
	if normal.Equal(a, b) != want || normal.Equal(b, a) != want {
		t.Fatalf("Equal(%+q, %+q) = %v, want %v", a, b, !want, want)
	}
}

func TestP5_1DecomposeExamples(t *testing.T) {
	for s, want := range map[string]string{
		"é": "e\u0301", "ﬁ": "fi", "": "", "a b-1": "a b-1", "ﬂ": "fl", "ſ": "s", "¹²³": "123", "\u00A0": " ", " ": " ",
		"\uFF01\uFF10\uFF21\uFF41\uFF5E": "!0Aa~", "ﬁﬂﬁ": "fiflfi", "ﬁ\u0301": "fi\u0301", "\uFF41\u0301": "a\u0301",
		"Ё": "Е\u0308", "й": "и\u0306", "ΆϊΏ": "Α\u0301ι\u0308Ω\u0301", "Çą": "C\u0327a\u0328", "İı": "I\u0307ı",
		"ŁłĐđØøßÆæœŧŋĦ": "ŁłĐđØøßÆæœŧŋĦ", "ςЄґ": "ςЄґ",
		"\u0301": "\u0301", "\u0301a": "\u0301a", "\u0301\u0323\u0327": "\u0327\u0323\u0301",
		"c\u0301\u0327": "c\u0327\u0301", "ć\u0327": "c\u0327\u0301", "ç\u0301": "c\u0327\u0301",
		"a\u0301\u0300\u0328\u0327\u0323": "a\u0328\u0327\u0323\u0301\u0300", "a\u0323\u0301\u0323\u0300": "a\u0323\u0323\u0301\u0300",
		"a\u0301b\u0327\u0301\u0327c": "a\u0301b\u0327\u0327\u0301c", "a\u0301 \u0327": "a\u0301 \u0327", "\u0301é\u0323": "\u0301e\u0323\u0301",
	} {
		if got := normal.Decompose(s); got != want {
			t.Errorf("%+q: %+q, want %+q", s, got, want)
		}
	}
}

func TestP5_1ComposeExamples(t *testing.T) {
	for s, want := range map[string]string{
		"c\u0301\u0327": "ç\u0301", "": "", "e\u0301": "é", "é": "é", "a b-1": "a b-1", "ﬁ": "fi", "²ſ\u00A0ﬂ": "2s fl", "\uFF25\u0301": "É", "ﬁ\u0301": "fí", "ſ\u030C": "š",
		"Е\u0308и\u0306": "Ёй", "Α\u0301ι\u0308": "Άϊ", "E\u0308": "Ë", "I\u0307ı\u0307": "İı\u0307", "ı\u0301": "ı\u0301",
		"\u0301": "\u0301", "\u0301e": "\u0301e", "\u0301e\u0301": "\u0301é", "\u0301\u0327": "\u0327\u0301", " \u0301": " \u0301", "1\u0301": "1\u0301",
		// the mark of another class does not keep one from being taken
		"ć\u0327": "ç\u0301", "a\u0323\u0301": "á\u0323", "a\u0301\u0323": "á\u0323", "a\u0327\u0301": "á\u0327", "a\u0327\u0323\u0301": "á\u0327\u0323", "e\u0301\u0328": "ę\u0301",
		// one of the same class that was left does
		"e\u0303\u0301": "e\u0303\u0301", "e\u0303\u0301\u0300": "e\u0303\u0301\u0300", "a\u0327\u0328": "a\u0327\u0328", "a\u0327\u0328\u0301": "á\u0327\u0328", "e\u030B\u0328\u0301": "ę\u030B\u0301", "a\u030C\u0323\u0301": "a\u0323\u030C\u0301",
		// one that was taken does not
		"a\u0328\u0327": "ą\u0327", "a\u0301\u0301": "á\u0301", "a\u0301\u0300": "á\u0300", "a\u0300\u0301": "à\u0301", "ι\u0308\u0301": "ϊ\u0301", "ι\u0301\u0308": "ί\u0308",
		"e\u0301e\u0303\u0301e\u0301": "ée\u0303\u0301é", "e\u0301\u0301 e\u0301": "é\u0301 é", "e\u0303e\u0301": "e\u0303é",
	} {
		if got := normal.Compose(s); got != want {
			t.Errorf("%+q: %+q, want %+q", s, got, want)
		}
	}
}

func TestP5_1IsExamples(t *testing.T) {
	for s, want := range map[string]bool{
		"": true, "a": true, "é": true, "e\u0301": false, "ç\u0301": true, "ć\u0327": false, "c\u0301\u0327": false, "e\u0303\u0301": true, "e\u0303": true, "á\u0323": true, "a\u0323\u0301": false,
		"ﬁ": false, "fi": true, "²": false, "ſ": false, "\u00A0": false, " ": true, "\uFF21": false, "жЁ": true, "Е\u0308": false, "E\u0308": false, "\u0301": true, "\u0301\u0327": false, "\u0327\u0301": true,
		"\xFF": false, "a\n": false, "\u0305": false, "é\xA9": false, "\uFFFD": false, "\u0218": false,
	} {
		if normal.Is(s) != want {
			t.Errorf("%+q: %v", s, !want)
		}
	}
}

func TestP5_1EqualExamples(t *testing.T) {
	for _, c := range []struct {
		a, b string
		want bool
	}{
		{"", "", true}, {"a", "a", true}, {"é", "e\u0301", true}, {"ﬁ", "fi", true}, {"\uFF21", "A", true}, {"1²", "¹2", true}, {"s", "ſ", true}, {" ", "\u00A0", true},
		{"ç\u0301", "ć\u0327", true}, {"a\u0323\u0301", "á\u0323", true}, {"\u0301\u0327", "\u0327\u0301", true},
		{"", "a", false}, {"a", "A", false}, {"e", "é", false}, {"ë", "ё", false}, {"A", "Α", false}, {"a\u0301\u0300", "a\u0300\u0301", false}, {"a\u0327\u0328", "a\u0328\u0327", false}, {"a\u0301b", "ab\u0301", false}, {"ab", "a", false}, {"a ", "a", false}, {"l", "ł", false}, {"ﬁ", "ﬂ", false},
		{"\xFF", "\xFF", false}, {"\xFF", "", false}, {"\xFF", "\xFE", false}, {"a\xFF", "a", false}, {"\u0305", "\u0305", false}, {"a\n", "a\n", false}, {"e\u0301\xFF", "é\xFF", false},
	} {
		if normal.Equal(c.a, c.b) != c.want || normal.Equal(c.b, c.a) != c.want {
			t.Errorf("%+q, %+q: %v", c.a, c.b, !c.want)
		}
	}
}

func TestP5_1StripAndMarksExamples(t *testing.T) {
	for _, c := range []struct {
		s, strip string
		marks    int
	}{
		{"", "", 0}, {"abc", "abc", 0}, {"é", "e", 1}, {"e\u0301", "e", 1}, {"été", "ete", 2}, {"ç\u0301\u0323", "c", 3}, {"\u0301", "", 1}, {"\u0301\u0301\u0327", "", 3}, {"\u0301a\u0302 b\u0323", "a b", 3},
		{"ﬁ²\u00A0\uFF21", "fi2 A", 0}, {"ﬁ\u0301", "fi", 1}, {"Łódź", "Łodz", 2}, {"Йорк Ёж", "Иорк Еж", 2}, {"ΰ", "", 0}, {"ώϋ", "ωυ", 2}, {"ø", "ø", 0}, {" é ", " e ", 1},
		{"\xFF", "", 0}, {"é\xFF", "", 0}, {"\u0305", "", 0}, {"é\n", "", 0}, {"\u0218e\u0301", "", 0},
	} {
		if s := normal.Strip(c.s); s != c.strip {
			t.Errorf("%+q: %+q, want %+q", c.s, s, c.strip)
		}
		if n := normal.Marks(c.s); n != c.marks {
			t.Errorf("%+q: %d marks, want %d", c.s, n, c.marks)
		}
	}
}

// Every character of Unicode alone, and behind a letter.
func TestP5_1EveryCharacter(t *testing.T) {
	m := newModel()
	if len(m.letters) != 187 || len(m.parts) != 187+7+94 || len(m.marks) != 14 {
		t.Fatal("the model is not whole:", len(m.letters), len(m.parts), len(m.marks))
	}
	for c := rune(0); c <= 0x10FFFF; c++ {
		checkString(t, m, string(c))
		if c < 0x11000 {
			checkString(t, m, "a"+string(c))
			checkString(t, m, string(c)+"\u0301")
		}
	}
}

// Every character with every two marks.
func TestP5_1EveryTwoMarks(t *testing.T) {
	m := newModel()
	for _, c := range m.list {
		for _, a := range m.marks {
			checkString(t, m, string([]rune{rune(c), a}))
			for _, b := range m.marks {
				checkString(t, m, string([]rune{rune(c), a, b}))
			}
		}
	}
}

func TestP5_1EveryThreeMarks(t *testing.T) {
	m := newModel()
	for _, c := range "acCeIçąéūιі" {
		for _, x := range m.marks {
			for _, y := range m.marks {
				for _, z := range m.marks {
					checkString(t, m, string([]rune{c, x, y, z}))
				}
			}
		}
	}
}

func TestP5_1AnyString(t *testing.T) {
	m := newModel()
	g := rand.New(rand.NewSource(50))
	already := 0
	for i := range 30000 {
		s := m.anyString(g, []int{3, 6, 12, 40}[i%4])
		checkString(t, m, s)
		if s != "" && normal.Is(s) {
			already++
		}
	}
	if already < 1000 {
		t.Error("the strings are too much alike:", already)
	}
}

func TestP5_1AnyTwoStrings(t *testing.T) {
	m := newModel()
	g := rand.New(rand.NewSource(51))
	for range 20000 {
		a := m.anyString(g, 6)
		for _, b := range []string{m.anyEqual(g, a), m.anyString(g, 6), a + "\u0301", a + "\xFF", strings.TrimPrefix(a, " ")} {
			checkEqual(t, m, a, b)
		}
	}
}

func TestP5_1NotEncoded(t *testing.T) {
	m := newModel()
	for _, s := range notEncoded() {
		for _, full := range []string{s, "a" + s, s + "\u0301", "é" + s + "e\u0301", s + s} {
			checkString(t, m, full)
			checkEqual(t, m, full, "")
			if normal.Decompose(full) != "" || normal.Compose(full) != "" || normal.Strip(full) != "" || normal.Marks(full) != 0 || normal.Is(full) || normal.Equal(full, full) {
				t.Errorf("%+q is taken for an encoded string", full)
			}
		}
	}
}

// Long sequences of marks must neither take the time of their square, nor lose their order.
func TestP5_1LongStrings(t *testing.T) {
	const n = 1 << 15
	long := "e" + strings.Repeat("\u0301\u0323\u0327\u0303\u0328", n)
	sorted := strings.Repeat("\u0327\u0328", n) + strings.Repeat("\u0323", n) + strings.Repeat("\u0301\u0303", n)
	if normal.Decompose(long) != "e"+sorted || normal.Strip(long) != "e" || normal.Marks(long) != 5*n {
		t.Error("a long sequence of marks")
	}
	if normal.Compose(long) != "é"+strings.Replace(sorted, "\u0301", "", 1) {
		t.Error("a long sequence of marks is not composed")
	}
	if normal.Compose("a"+long) != "a"+normal.Compose(long) || !normal.Equal(long, "e"+sorted) || normal.Equal(long+"\u0301", "e"+sorted) {
		t.Error("a long string behind a letter")
	}
	letters := strings.Repeat("éﬁжa\uFF21", n)
	if normal.Decompose(letters) != strings.Repeat("e\u0301fiжaA", n) || normal.Compose(letters) != strings.Repeat("éfiжaA", n) || normal.Marks(letters) != n {
		t.Error("a long string of letters")
	}
	if s := letters + "\xFF"; normal.Decompose(s) != "" || normal.Is(s) || normal.Equal(s, s) {
		t.Error("a long string that is not encoded")
	}
}
