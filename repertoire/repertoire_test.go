package repertoire_test

import (
	"math/rand"
	"slices"
	"strings"
	"testing"

	rep "bookplate/repertoire"
)

// P4.1: single characters

func TestP4_1Constants(t *testing.T) {
	if scripts := []int{rep.None, rep.Latin, rep.Greek, rep.Cyrillic, rep.Mixed}; !slices.Equal(scripts, []int{0, 1, 2, 3, 4}) {
		t.Error(scripts)
	}
	if kinds := []int{rep.Letter, rep.Mark, rep.Digit, rep.Space, rep.Punct}; !slices.Equal(kinds, []int{1, 2, 3, 4, 5}) {
		t.Error(kinds)
	}
}

func TestP4_1ClassExamples(t *testing.T) {
	for _, c := range []struct{ c, script, kind int }{
		{0xE9, rep.Latin, rep.Letter}, {0xFF10, rep.None, rep.Digit},
		{0x20, rep.None, rep.Space}, {0xA0, rep.None, rep.Space}, {'0', rep.None, rep.Digit}, {'9', rep.None, rep.Digit}, {0xB2, rep.None, rep.Digit}, {0xB9, rep.None, rep.Digit},
		{'A', rep.Latin, rep.Letter}, {'z', rep.Latin, rep.Letter}, {0x17F, rep.Latin, rep.Letter}, {0xFB01, rep.Latin, rep.Letter}, {0xFB02, rep.Latin, rep.Letter}, {0x131, rep.Latin, rep.Letter}, {0xDF, rep.Latin, rep.Letter},
		{0x300, rep.None, rep.Mark}, {0x306, rep.None, rep.Mark}, {0x30C, rep.None, rep.Mark}, {0x323, rep.None, rep.Mark}, {0x328, rep.None, rep.Mark},
		{0x391, rep.Greek, rep.Letter}, {0x3C2, rep.Greek, rep.Letter}, {0x3CE, rep.Greek, rep.Letter}, {0x386, rep.Greek, rep.Letter},
		{0x410, rep.Cyrillic, rep.Letter}, {0x439, rep.Cyrillic, rep.Letter}, {0x451, rep.Cyrillic, rep.Letter}, {0x490, rep.Cyrillic, rep.Letter}, {0x491, rep.Cyrillic, rep.Letter},
		{'!', rep.None, rep.Punct}, {'~', rep.None, rep.Punct}, {'@', rep.None, rep.Punct}, {'_', rep.None, rep.Punct},
		{0xFF01, rep.None, rep.Punct}, {0xFF21, rep.Latin, rep.Letter}, {0xFF5A, rep.Latin, rep.Letter}, {0xFF5E, rep.None, rep.Punct},
		{0xFF00, 0, 0}, {0xFF5F, 0, 0}, {0x3000, 0, 0}, {0x1F, 0, 0}, {0x7F, 0, 0}, {0, 0, 0}, {-1, 0, 0}, {0x305, 0, 0}, {0x309, 0, 0}, {0x3A2, 0, 0}, {0xD7, 0, 0}, {0xF7, 0, 0}, {0xFFFD, 0, 0},
	} {
		if script, kind := rep.Class(c.c); script != c.script || kind != c.kind || rep.Has(c.c) != (c.kind != 0) {
			t.Errorf("U+%04X: %d, %d, %v, want %d, %d", c.c, script, kind, rep.Has(c.c), c.script, c.kind)
		}
	}
}

func checkClass(t *testing.T, m *model, c int) {
	t.Helper()
	script, kind := rep.Class(c)
	if want := m.classes[c]; script != want.script || kind != want.kind || rep.Has(c) != (want.kind != 0) {
		t.Errorf("%d: %d, %d, %v, want %d, %d", c, script, kind, rep.Has(c), want.script, want.kind)
	}
}

func TestP4_1ClassOfEveryCharacter(t *testing.T) {
	m := newModel()
	for c := -0x20000; c <= 0x120000; c++ {
		checkClass(t, m, c)
	}
}

// Numbers of which some bits alone are those of a character must not be taken for it.
func TestP4_1ClassOfFarNumbers(t *testing.T) {
	m := newModel()
	for _, c := range append(m.list, 0, 0xFFFD, 0x10FFFF) {
		for bit := 8; bit < 64; bit++ {
			checkClass(t, m, c+1<<bit)
			checkClass(t, m, c-1<<bit)
			checkClass(t, m, c|-1<<bit)
		}
		checkClass(t, m, -c)
		checkClass(t, m, ^c)
		checkClass(t, m, least+c)
		checkClass(t, m, greatest-c)
	}
}

func TestP4_1Classes(t *testing.T) {
	number := map[class]int{}
	for c := range 0x110000 {
		script, kind := rep.Class(c)
		number[class{script, kind}]++
	}
	delete(number, class{})
	want := map[class]int{
		{rep.None, rep.Space}: 2, {rep.None, rep.Digit}: 10 + 3 + 10, {rep.None, rep.Mark}: 14, {rep.None, rep.Punct}: 32 + 32,
		{rep.Latin, rep.Letter}: 52 + 3 + 183 + 52, {rep.Greek, rep.Letter}: 17 + 7 + 25 + 18, {rep.Cyrillic, rep.Letter}: 64 + 12,
	}
	for k, n := range want {
		if number[k] != n {
			t.Errorf("%v: %d, want %d", k, number[k], n)
		}
	}
	if len(number) != len(want) {
		t.Error(number)
	}
}

// P4.1: strings

func same(got []int, ok bool, want []int, wantOK bool) bool {
	return ok == wantOK && slices.Equal(got, want)
}

func TestP4_1DecodeExamples(t *testing.T) {
	for _, c := range []struct {
		s    string
		want []int
		ok   bool
	}{
		{"", nil, true}, {"a", []int{'a'}, true}, {"é", []int{0xE9}, true}, {"e\u0301", []int{'e', 0x301}, true}, {"Aж", []int{'A', 0x436}, true},
		{"a b ", []int{'a', ' ', 'b', ' '}, true}, {"\u00A0ﬁ\uFF01", []int{0xA0, 0xFB01, 0xFF01}, true}, {"\u0301", []int{0x301}, true},
		{"\xC3\xA9\xCE\xB1\xD0\xB6\xEF\xBC\xA1", []int{0xE9, 0x3B1, 0x436, 0xFF21}, true},
		{"a\nb", nil, false}, {"ab\xFF", nil, false}, {"\xC3", nil, false}, {"é\xA9", nil, false}, {"a\u3000", nil, false}, {"\uFFFD", nil, false},
	} {
		if l, ok := rep.Decode(c.s); !same(l, ok, c.want, c.ok) {
			t.Errorf("%q: %v, %v", c.s, l, ok)
		}
	}
}

func TestP4_1EncodeExamples(t *testing.T) {
	for _, c := range []struct {
		l    []int
		want string
		ok   bool
	}{
		{nil, "", true}, {[]int{}, "", true}, {[]int{'a'}, "a", true}, {[]int{0xE9}, "\xC3\xA9", true}, {[]int{'e', 0x301}, "e\xCC\x81", true},
		{[]int{' ', 0xA0, ' '}, " \xC2\xA0 ", true}, {[]int{0x3B1, 0x436, 0xFB02, 0xFF21}, "\xCE\xB1\xD0\xB6\xEF\xAC\x82\xEF\xBC\xA1", true},
		{[]int{0}, "", false}, {[]int{-1}, "", false}, {[]int{'a', 0xFFFD}, "", false}, {[]int{0x3000, 'a'}, "", false}, {[]int{'a', 10, 'b'}, "", false},
		{[]int{0xD800}, "", false}, {[]int{0x110000}, "", false}, {[]int{least}, "", false}, {[]int{greatest}, "", false}, {[]int{'a' + 1<<32}, "", false}, {[]int{'a' - 1<<32}, "", false},
	} {
		if s, ok := rep.Encode(c.l); s != c.want || ok != c.ok {
			t.Errorf("%v: %q, %v", c.l, s, ok)
		}
	}
}

func TestP4_1ValidExamples(t *testing.T) {
	for _, c := range []struct {
		s  string
		ok bool
	}{
		{"", false}, {"a", true}, {"a b", true}, {"a  b", true}, {"~", true}, {"0", true}, {"\u0301", true}, {"é", true}, {"ж", true},
		{" ", false}, {"  ", false}, {" a", false}, {"a ", false}, {" a ", false}, {"\u00A0", true}, {"\u00A0a\u00A0", true}, {"\u00A0 ", false}, {" \u00A0", false},
		{"a\n", false}, {"\ta", false}, {"a\x00b", false}, {"\xFFa", false}, {"a\xC3", false}, {"\u3000", false}, {"a\uFFFDb", false},
		{strings.Repeat("a", 399), true}, {strings.Repeat("a", 400), true}, {strings.Repeat("a", 401), false},
		{strings.Repeat("é", 200), true}, {strings.Repeat("é", 200) + "a", false}, {strings.Repeat("é", 201), false}, {strings.Repeat("ﬁ", 133), true}, {strings.Repeat("ﬁ", 133) + "a", true}, {strings.Repeat("ﬁ", 133) + "é", false}, {strings.Repeat("ﬁ", 134), false},
		{"a" + strings.Repeat(" ", 398) + "a", true}, {"a" + strings.Repeat(" ", 399) + "a", false}, {strings.Repeat(" ", 400), false}, {strings.Repeat("a", 399) + " ", false}, {" " + strings.Repeat("a", 399), false},
		{strings.Repeat("a", 399) + "\xFF", false}, {strings.Repeat("a", 1<<20), false},
	} {
		if rep.Valid(c.s) != c.ok {
			t.Errorf("%q (%d bytes): %v", c.s[:min(len(c.s), 20)], len(c.s), !c.ok)
		}
	}
}

func TestP4_1CountExamples(t *testing.T) {
	for s, want := range map[string]int{
		"": 0, "é": 1, "e\u0301": 2, "abc": 3, " a ": 3, "Aж": 2, "ﬁ\uFF10α": 3, "\u0301": 1, strings.Repeat("ж", 1000): 1000,
		"a\xFF": 0, "\xFFa": 0, "abc\n": 0, "é\xA9": 0, "\uFFFD": 0, "abc\u3000": 0,
	} {
		if n := rep.Count(s); n != want {
			t.Errorf("%q: %d, want %d", s, n, want)
		}
	}
}

func TestP4_1CutExamples(t *testing.T) {
	for _, c := range []struct {
		s    string
		n    int
		want string
	}{
		{"abc", 2, "ab"}, {"abc", 1, "a"}, {"abc", 3, "abc"}, {"abc", 4, "abc"}, {"abc", greatest, "abc"}, {"abc", 0, ""}, {"abc", -1, ""}, {"abc", least, ""},
		{"éжﬁα", 1, "é"}, {"éжﬁα", 2, "éж"}, {"éжﬁα", 3, "éжﬁ"}, {"éжﬁα", 4, "éжﬁα"}, {"éжﬁα", 5, "éжﬁα"}, {"e\u0301a", 1, "e"}, {" a ", 1, " "}, {"a b", 2, "a "},
		{"", 0, ""}, {"", 1, ""}, {"", -1, ""}, {"", greatest, ""},
		{"abc\xFF", 2, ""}, {"abc\xFF", 3, ""}, {"abc\xFF", 4, ""}, {"abc\xFF", greatest, ""}, {"\xFFabc", 2, ""}, {"a\nb", 1, ""}, {"a\u3000", 1, ""}, {"a\uFFFD", 1, ""}, {"\xFF", 0, ""}, {"\xFF", -1, ""},
	} {
		if s := rep.Cut(c.s, c.n); s != c.want {
			t.Errorf("%q, %d: %q, want %q", c.s, c.n, s, c.want)
		}
	}
}

func TestP4_1ScriptExamples(t *testing.T) {
	for s, want := range map[string]int{
		"": rep.None, "1.": rep.None, " ": rep.None, "\u0301\u00A0²": rep.None, "\uFF10\uFF01": rep.None,
		"a": rep.Latin, "É": rep.Latin, "ﬁ": rep.Latin, "ſ": rep.Latin, "\uFF21": rep.Latin, "1. a\u0301 b!": rep.Latin, "aé\uFF5Aﬂ": rep.Latin, "a1": rep.Latin,
		"α": rep.Greek, "Ώ 1 ς": rep.Greek, "ж": rep.Cyrillic, "- Ґ.і": rep.Cyrillic, "1ж1": rep.Cyrillic,
		"Aж": rep.Mixed, "жA": rep.Mixed, "aα": rep.Mixed, "αж": rep.Mixed, "α 1 a": rep.Mixed, "aαж": rep.Mixed, "жaж": rep.Mixed, "aжa 1": rep.Mixed, "\uFF21α": rep.Mixed, "Α\u0301A": rep.Mixed, "aaж": rep.Mixed, "aжж": rep.Mixed, "аa": rep.Mixed,
		"a\xFF": rep.None, "\xFFa": rep.None, "aж\xFF": rep.None, "a\n": rep.None, "ж\uFFFD": rep.None, "a\u3000b": rep.None, "Aж×": rep.None,
	} {
		if script := rep.Script(s); script != want {
			t.Errorf("%q: %d, want %d", s, script, want)
		}
	}
}

// checkString compares everything that is said about a string with the model.
func checkString(t *testing.T, m *model, s string) {
	t.Helper()
	l, ok := rep.Decode(s)
	if want, wantOK := m.decode(s); !same(l, ok, want, wantOK) {
		t.Fatalf("Decode(%q) = %v, %v, want %v, %v", s, l, ok, want, wantOK)
	}
	if got, want := rep.Valid(s), m.valid(s); got != want {
		t.Fatalf("Valid(%q) = %v, want %v", s, got, want)
	}
	if got, want := rep.Count(s), m.count(s); got != want {
		t.Fatalf("Count(%q) = %d, want %d", s, got, want)
	}
	if got, want := rep.Script(s), m.script(s); got != want {
		t.Fatalf("Script(%q) = %d, want %d", s, got, want)
	}
	for _, n := range []int{least, -1, 0, 1, 2, 3, len(l) - 1, len(l), len(l) + 1, len(s), greatest} {
		if got, want := rep.Cut(s, n), m.cut(s, n); got != want {
			t.Fatalf("Cut(%q, %d) = %q, want %q", s, n, got, want)
		}
	}
}

func TestP4_1NotEncoded(t *testing.T) {
	m := newModel()
	for _, s := range notEncoded() {
		for _, full := range []string{s, "a" + s, s + "b", "é" + s + "ж", s + s} {
			checkString(t, m, full)
			if l, ok := rep.Decode(full); ok || len(l) > 0 {
				t.Errorf("%q is encoded: %v", full, l)
			}
		}
	}
}

// All strings of up to two bytes, and all that could be the encoding of a character with three bytes.
func TestP4_1ShortStrings(t *testing.T) {
	m := newModel()
	checkString(t, m, "")
	for a := range 256 {
		checkString(t, m, string([]byte{byte(a)}))
		for b := range 256 {
			checkString(t, m, string([]byte{byte(a), byte(b)}))
		}
	}
	for a := 0xE0; a <= 0xEF; a++ {
		for b := 0x80; b <= 0xBF; b++ {
			for c := 0x70; c <= 0xC0; c++ {
				checkString(t, m, string([]byte{byte(a), byte(b), byte(c)}))
			}
		}
	}
}

// Every character of Unicode alone, and the surrogates as if they were some.
func TestP4_1CharactersAlone(t *testing.T) {
	m := newModel()
	for c := range 0x10000 {
		s := encoding(c)
		l, ok := rep.Decode(s)
		if want, wantOK := m.decode(s); !same(l, ok, want, wantOK) {
			t.Fatalf("Decode of U+%04X: %v, %v", c, l, ok)
		}
	}
	for c := rune(0x10000); c <= 0x10FFFF; c++ {
		if l, ok := rep.Decode(string(c)); ok || len(l) > 0 {
			t.Fatalf("Decode of U+%04X: %v, %v", c, l, ok)
		}
	}
}

func TestP4_1AnyString(t *testing.T) {
	m := newModel()
	g := rand.New(rand.NewSource(1))
	scripts := map[int]int{}
	valid := 0
	for i := range 20000 {
		s := m.anyString(g, []int{4, 12, 60, 250}[i%4])
		checkString(t, m, s)
		scripts[rep.Script(s)]++
		if rep.Valid(s) {
			valid++
		}
	}
	if len(scripts) != 5 || valid < 1000 {
		t.Error("the strings are too much alike:", scripts, valid)
	}
}

func TestP4_1AnyList(t *testing.T) {
	m := newModel()
	g := rand.New(rand.NewSource(2))
	wrong := []int{0, -1, 9, 0x7F, 0xFFFD, 0xD800, 0x110000, 0x10FFFF, 0x3000, 'a' + 1<<32, 'a' - 1<<32, 'a' + 1<<16, least, greatest}
	for range 20000 {
		l := m.anyList(g, 30)
		if len(l) > 0 && g.Intn(2) == 0 {
			l[g.Intn(len(l))] = wrong[g.Intn(len(wrong))]
		}
		s, ok := rep.Encode(l)
		if want, wantOK := m.encode(l); s != want || ok != wantOK {
			t.Fatalf("Encode(%v) = %q, %v, want %q, %v", l, s, ok, want, wantOK)
		}
	}
}

func TestP4_1LongStrings(t *testing.T) {
	const n = 1 << 20
	long := strings.Repeat("aéﬁ", n)
	if rep.Count(long) != 3*n || rep.Script(long) != rep.Latin || rep.Valid(long) || rep.Cut(long, 3*n/2) != long[:3*n] {
		t.Error("a long string")
	}
	l, ok := rep.Decode(long)
	if s, again := rep.Encode(l); !ok || !again || s != long {
		t.Error("a long string is not decoded and encoded")
	}
	l[3*n-1] = 0
	if s, ok := rep.Encode(l); ok || s != "" {
		t.Error("a long list is encoded")
	}
	long += "\xFF"
	if l, ok := rep.Decode(long); ok || len(l) > 0 || rep.Count(long) != 0 || rep.Script(long) != rep.None || rep.Cut(long, 1) != "" {
		t.Error("a long string that is not encoded")
	}
}

// Results must be new memory, and arguments must stay as they are.
func TestP4_1Memory(t *testing.T) {
	l := []int{'a', 0xE9, 0x436}
	s, _ := rep.Encode(l)
	if !slices.Equal(l, []int{'a', 0xE9, 0x436}) {
		t.Error("Encode changes its argument")
	}
	l[0] = 'b'
	if s != "aéж" {
		t.Error("Encode keeps its argument")
	}
	first, _ := rep.Decode(s)
	clear(first)
	if second, ok := rep.Decode(s); !ok || !slices.Equal(second, []int{'a', 0xE9, 0x436}) {
		t.Error("Decode keeps its result")
	}
	clear(rep.List())
	if l := rep.List(); len(l) != 536 || l[0] != 0x20 {
		t.Error("List keeps its result")
	}
}
