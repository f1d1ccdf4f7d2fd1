package fold_test

import (
	"math/rand"
	"slices"
	"strings"
	"testing"
	"unicode"

	"bookplate/fold"
	"bookplate/normal"
	rep "bookplate/repertoire"
)

// P6.1: small letters

func TestP6_1LowerExamples(t *testing.T) {
	for _, c := range []struct{ c, want int }{
		{'A', 'a'}, {'M', 'm'}, {'Z', 'z'}, {'@', '@'}, {'[', '['}, {'`', '`'}, {'a', 'a'}, {'z', 'z'}, {'{', '{'}, {' ', ' '}, {'0', '0'}, {'!', '!'},
		{0x391, 0x3B1}, {0x3A1, 0x3C1}, {0x3A3, 0x3C3}, {0x3A9, 0x3C9}, {0x3C2, 0x3C3}, {0x3B1, 0x3B1}, {0x3C1, 0x3C1}, {0x3C3, 0x3C3}, {0x3C9, 0x3C9},
		{0x410, 0x430}, {0x419, 0x439}, {0x42F, 0x44F}, {0x430, 0x430}, {0x439, 0x439}, {0x44F, 0x44F},
		{0xC6, 0xE6}, {0xD8, 0xF8}, {0xD0, 0xF0}, {0xDE, 0xFE}, {0x110, 0x111}, {0x126, 0x127}, {0x141, 0x142}, {0x152, 0x153}, {0x14A, 0x14B}, {0x166, 0x167}, {0x406, 0x456}, {0x404, 0x454}, {0x490, 0x491},
		{0xE6, 0xE6}, {0xF8, 0xF8}, {0xF0, 0xF0}, {0xFE, 0xFE}, {0x111, 0x111}, {0x127, 0x127}, {0x142, 0x142}, {0x153, 0x153}, {0x14B, 0x14B}, {0x167, 0x167}, {0x456, 0x456}, {0x454, 0x454}, {0x491, 0x491},
		// letters with marks and compatibility forms are their own small letters
		{'É', 'É'}, {'Å', 'Å'}, {'Ç', 'Ç'}, {'Ÿ', 'Ÿ'}, {'Ž', 'Ž'}, {'İ', 'İ'}, {0x386, 0x386}, {0x38F, 0x38F}, {0x3AA, 0x3AA}, {0x3AB, 0x3AB}, {0x401, 0x401}, {0x407, 0x407}, {0x40E, 0x40E}, {0xFF21, 0xFF21}, {0xFF3A, 0xFF3A}, {0x17F, 0x17F}, {0xFB01, 0xFB01}, {0xDF, 0xDF}, {'ı', 'ı'}, {0x301, 0x301}, {0xA0, 0xA0}, {0xB2, 0xB2},
		// what is not in the repertoire
		{0x3A2, 0x3A2}, {0x390, 0x390}, {0x402, 0x402}, {0x40F, 0x40F}, {0x492, 0x492}, {0xD7, 0xD7}, {0x1E9E, 0x1E9E}, {0x130 + 0x10000, 0x130 + 0x10000}, {0, 0}, {-1, -1}, {-65, -65}, {0x10FFFF, 0x10FFFF}, {1<<63 - 1, 1<<63 - 1}, {-1 << 63, -1 << 63},
	} {
		if got := fold.Lower(c.c); got != c.want {
			t.Errorf("%#x: %#x, want %#x", c.c, got, c.want)
		}
	}
}

func TestP6_1LowerOfEveryNumber(t *testing.T) {
	m := newModel()
	if len(m.small) != 26+10+24+32+3+1 {
		t.Fatal("the model is not whole:", len(m.small))
	}
	for c := rune(-0x20000); c <= 0x120000; c++ {
		if got, want := fold.Lower(int(c)), int(m.lower(c)); got != want {
			t.Errorf("%#x: %#x, want %#x", c, got, want)
		}
	}
}

// Numbers of which some bits alone are those of a capital letter must not be taken for it.
func TestP6_1LowerOfFarNumbers(t *testing.T) {
	for _, c := range newModel().list {
		for bit := 16; bit < 64; bit++ {
			for _, far := range []int{int(c) + 1<<bit, int(c) - 1<<bit, int(c) | -1<<bit, ^int(c), -int(c)} {
				if got := fold.Lower(far); got != far {
					t.Fatalf("%#x: %#x", far, got)
				}
			}
		}
	}
}

// Letters that are not composed of others have the small letters of Unicode; İ is composed, too.
func TestP6_1LowerAsInUnicode(t *testing.T) {
	for _, c := range newModel().list {
		want := unicode.ToLower(c)
		if normal.Decompose(string(c)) != string(c) && c != 'Й' {
			want = c
		}
		if c == finalSigma {
			want = sigma
		}
		if got := fold.Lower(int(c)); got != int(want) {
			t.Errorf("%c: U+%04X, want %c", c, got, want)
		}
	}
}

// P6.1: forms

func TestP6_1FoldExamples(t *testing.T) {
	for s, want := range map[string]string{
		"": "", "abc": "abc", "ABC xyz": "abc xyz", "L'Été - à Łódź!": "l'e\u0301te\u0301 - a\u0300 ło\u0301dz\u0301!", "Straße": "strasse", "STRASSE": "strasse", "ß": "ss", "ßß": "ssss", "ß\u0301": "ss\u0301",
		"É": "e\u0301", "é": "e\u0301", "E\u0301": "e\u0301", "İ": "i\u0307", "I": "i", "ı": "ı", "Ç\u0301": "c\u0327\u0301", "C\u0301\u0327": "c\u0327\u0301",
		"ÆŒØÐĐÞĦŁŊŦ": "æœøðđþħłŋŧ", "æœøðđþħıłŋŧ": "æœøðđþħıłŋŧ",
		"ΟΔΥΣΣΕΥΣ": "οδυσσευσ", "Οδυσσεύς": "οδυσσευ\u0301σ", "Ώρα": "ω\u0301ρα", "Ϊ": "ι\u0308",
		"Йод": "и\u0306од", "ЁЖ": "е\u0308ж", "Їжак": "і\u0308жак", "ЄҐІЎ": "єґіу\u0306",
		"ﬁﬂſ": "fifls", "\uFF21\uFF5A\uFF01": "az!", "1²³¹": "1231", "\u00A0 \u00A0": "   ", "  A  ": "  a  ", "\u0301": "\u0301", "\u0301A": "\u0301a", "a\u0301\u0323": "a\u0323\u0301", "@[`{": "@[`{",
		"\xFF": "", "A\n": "", "A\u0305": "", "\u1E9E": "", "É\xC3": "", "\u03A2": "",
	} {
		if got := fold.Fold(s); got != want {
			t.Errorf("%+q: %+q, want %+q", s, got, want)
		}
	}
}

func TestP6_1SearchExamples(t *testing.T) {
	for s, want := range map[string]string{
		"L'Été - à Łódź!": "l ete a lodz", "Straße": "strasse",
		"": "", " ": "", "   ": "", "!": "", "-'-": "", "\u00A0": "", "\u0301": "", " \u0301 ": "", "a": "a", " a ": "a", "  a  b  ": "a b", "a - b": "a b", "a-b": "a b", "'a'": "a", "a'b": "a b", "a!": "a", "!a": "a", "\u00A0a\u00A0\u00A0b\u00A0": "a b",
		"ÆæŒœØøÐðĐđÞþĦħŁłŊŋŦŧ": "aeaeoeoeooddddththhhllngngtt", "ı": "i", "ıI İ": "ii i", "ß": "ss", "ŋ ŋ": "ng ng", "þ-þ": "th th", "Ǆ": "",
		"ΟΔΥΣΣΕΎΣ": "οδυσσευσ", "Οδυσσεύς": "οδυσσευσ", "ΪΫΆ": "ιυα", "Йод": "иод", "Ёж, ёж": "еж еж", "Їжак": "іжак", "Ўжо": "ужо", "ЄҐІ": "єґі",
		"ﬁﬂſ": "fifls", "\uFF21\uFF3A \uFF10": "az 0", "\uFF0D": "", "x²³¹": "x231", "0123456789": "0123456789", "a1-2": "a1 2", "007": "007",
		"a\u0301": "a", "a\u0301\u0323\u0327b": "ab", "a \u0301b": "a b", "a \u0301 b": "a b", "a\u0301 b": "a b", "\u0301a": "a", "a-\u0301b": "a b", "\u0301 a": "a", "a \u0301": "a", "ł\u0301": "l", "æ\u0301": "ae",
		"~!@#$%^&*()_+a{}|:\"<>?`-=[];'\\,./b": "a b",
		"\xFF":                                 "", "a\n": "", "a\u0305": "", "\u1E9E": "", "a\xC3": "", "中": "", "a b\t": "",
	} {
		if got := fold.Search(s); got != want {
			t.Errorf("%+q: %+q, want %+q", s, got, want)
		}
	}
}

func TestP6_1IsExamples(t *testing.T) {
	for s, want := range map[string]bool{
		"a": true, "l ete a lodz": true, "strasse": true, "0": true, "2 b": true, "οδυσσευσ": true, "еж": true, "ієґ": true, "a b c": true,
		"": false, " ": false, " a": false, "a ": false, "a  b": false, "A": false, "a!": false, "a-b": false, "é": false, "e\u0301": false, "ß": false, "æ": false, "ø": false, "ı": false, "ł": false, "þ": false, "ŋ": false, "ς": false, "ё": false, "й": false, "ї": false, "\u00A0": false, "a\u00A0b": false, "²": false, "ﬁ": false, "\uFF41": false, "\u0301": false,
		"\xFF": false, "a\n": false, "a\xC3": false, "中": false, "\uFFFD": false,
	} {
		if fold.Is(s) != want {
			t.Errorf("%+q: %v", s, !want)
		}
	}
}

func TestP6_1AlikeExamples(t *testing.T) {
	for _, c := range []struct {
		a, b string
		want bool
	}{
		{"a", "a", true}, {"a", "A!", true}, {"L'Été", "l ete", true}, {"Straße", "STRASSE", true}, {"Łódź", "Lodz", true}, {"æ", "ae", true}, {"þ", "TH", true}, {" a  b ", "a-b", true}, {"ΟΔΟΣ", "οδός", true}, {"Ёж", "еж", true}, {"x²", "X2", true}, {"ﬁ", "fi", true}, {"İ", "ı", true},
		{"a", "b", false}, {"a b", "ab", false}, {"a", "a a", false}, {"a", "", false}, {"a", "!", false}, {"A", "Α", false}, {"а", "a", false}, {"a'b", "ab", false}, {"ö", "oe", false},
		// empty forms are not alike
		{"", "", false}, {"!", "!", false}, {"", "!", false}, {" ", "-", false}, {"\u0301", "\u0301", false},
		{"\xFF", "\xFF", false}, {"a\xFF", "a\xFF", false}, {"a\n", "a", false}, {"\xFF", "", false}, {"中", "中", false}, {"a", "a\u0305", false},
	} {
		if fold.Alike(c.a, c.b) != c.want || fold.Alike(c.b, c.a) != c.want {
			t.Errorf("%+q, %+q: %v", c.a, c.b, !c.want)
		}
	}
}

func TestP6_1JoinExamples(t *testing.T) {
	for _, c := range []struct {
		l    []string
		want string
	}{
		{nil, ""}, {[]string{}, ""}, {[]string{""}, ""}, {[]string{"", ""}, ""}, {[]string{"!", " "}, ""}, {[]string{"a"}, "a"}, {[]string{" É! "}, "e"},
		{[]string{"L'Été", "à", "Łódź"}, "l ete a lodz"}, {[]string{"b", "a"}, "b a"}, {[]string{"a", "a"}, "a a"},
		// strings with an empty form leave no space behind
		{[]string{"", "a"}, "a"}, {[]string{"a", ""}, "a"}, {[]string{"a", "", "b"}, "a b"}, {[]string{"a", "!", "-", "b", "\u0301"}, "a b"}, {[]string{"!", "a", "!"}, "a"},
		{[]string{"a", "\xFF", "b"}, "a b"}, {[]string{"\xC3", "\xA9"}, ""}, {[]string{"a\n", "b"}, "b"}, {[]string{"中"}, ""},
		// the strings stay apart
		{[]string{"f", "i"}, "f i"}, {[]string{"e", "\u0301x"}, "e x"}, {[]string{"a ", " b"}, "a b"}, {[]string{"a b", "c"}, "a b c"},
	} {
		if got := fold.Join(c.l); got != c.want {
			t.Errorf("%+q: %+q, want %+q", c.l, got, c.want)
		}
	}
}

// checkString compares everything that is said about a string with the model.
func checkString(t *testing.T, m *model, s string) {
	t.Helper()
	form := m.search(s)
	if got, want := fold.Fold(s), m.fold(s); got != want {
		t.Fatalf("Fold(%+q) = %+q, want %+q", s, got, want)
	}
	if got := fold.Search(s); got != form {
		t.Fatalf("Search(%+q) = %+q, want %+q", s, got, form)
	}
	if got, want := fold.Is(s), m.is(s); got != want {
		t.Fatalf("Is(%+q) = %v", s, got)
	}
	if got, want := fold.Alike(s, s), m.alike(s, s); got != want {
		t.Fatalf("Alike(%+q, the same) = %v", s, got)
	}
	if got := fold.Join([]string{s}); got != form {
		t.Fatalf("Join of %+q = %+q, want %+q", s, got, form)
	}
}

func checkAlike(t *testing.T, m *model, a, b string) bool {
	t.Helper()
	want := m.alike(a, b)
	if fold.Alike(a, b) != want || fold.Alike(b, a) != want {
		t.Fatalf("Alike(%+q, %+q) = %v, want %v", a, b, !want, want)
	}
	return want
}

// Every character of Unicode alone; those of the repertoire also between letters, and next to spaces.
func TestP6_1EveryCharacter(t *testing.T) {
	m := newModel()
	for c := rune(0); c <= 0x10FFFF; c++ {
		if c < 0x11000 || c%64 == 0 {
			checkString(t, m, string(c))
			checkString(t, m, "a"+string(c))
		}
	}
	for _, c := range m.list {
		for _, s := range []string{"a" + string(c) + "b", " " + string(c) + " ", "-" + string(c), "É\u0323" + string(c) + "\u0301!", string(c) + string(c)} {
			checkString(t, m, s)
		}
	}
}

func TestP6_1EveryTwoCharacters(t *testing.T) {
	m := newModel()
	for _, a := range m.list {
		for _, b := range m.list {
			s := string([]rune{a, b})
			if got, want := fold.Fold(s), m.fold(s); got != want {
				t.Fatalf("Fold(%+q) = %+q, want %+q", s, got, want)
			}
		}
	}
	for i, a := range m.list {
		for _, b := range m.list[i%7:][:len(m.list)/8] {
			checkString(t, m, string([]rune{a, b}))
			checkString(t, m, string([]rune{b, a, ' ', b}))
		}
	}
}

// Every sequence of up to six of the kinds of characters between which spaces come, or do not.
func TestP6_1EveryOrderOfKinds(t *testing.T) {
	m := newModel()
	l := []string{""}
	for range 6 {
		var longer []string
		for _, s := range l {
			for _, c := range []string{"a", "7", " ", "-", "\u0301"} {
				longer = append(longer, s+c)
			}
		}
		for _, s := range longer {
			checkString(t, m, s)
		}
		l = longer
	}
}

func TestP6_1AnyString(t *testing.T) {
	m := newModel()
	g := rand.New(rand.NewSource(61))
	encodedOnes, empty := 0, 0
	for i := range 20000 {
		s := m.anyString(g, []int{3, 6, 12, 40}[i%4])
		checkString(t, m, s)
		if encoded(s) {
			encodedOnes++
		}
		if fold.Search(s) == "" {
			empty++
		}
	}
	if encodedOnes < 10000 || encodedOnes > 19000 || empty < 1000 || empty > 10000 {
		t.Error("the strings are too much alike:", encodedOnes, empty)
	}
}

func TestP6_1AnyForm(t *testing.T) {
	m := newModel()
	g := rand.New(rand.NewSource(62))
	for range 3000 {
		s := m.anyForm(g, 6)
		if !fold.Is(s) {
			t.Fatalf("%+q is not its own search form", s)
		}
		checkString(t, m, s)
		for _, other := range []string{" " + s, s + " ", s + "!", "-" + s, s + "\u0301", s + "\xFF", "\xFF" + s, s + "  " + s, s + "É", s + "ø", s + "\n"} {
			if fold.Is(other) {
				t.Fatalf("%+q is said to be its own search form", other)
			}
			checkString(t, m, other)
		}
	}
}

func TestP6_1AnyTwoStrings(t *testing.T) {
	m := newModel()
	g := rand.New(rand.NewSource(63))
	alike := 0
	for range 10000 {
		a := m.anyString(g, 6)
		for _, b := range []string{m.anyString(g, 6), a + "\u0301", a + "!", a + " a", a + "\xFF", strings.ToUpper(a), normal.Compose(a), fold.Search(a), fold.Fold(a)} {
			if checkAlike(t, m, a, b) {
				alike++
			}
		}
		form := m.anyForm(g, 4)
		if other := m.anyAlike(g, form); !checkAlike(t, m, form, other) {
			t.Fatalf("the model tells %+q and %+q apart", form, other)
		}
		checkAlike(t, m, form, m.anyForm(g, 1))
	}
	if alike < 20000 || alike > 70000 {
		t.Error("the strings are too much alike:", alike)
	}
}

func TestP6_1AnyList(t *testing.T) {
	m := newModel()
	g := rand.New(rand.NewSource(64))
	for range 10000 {
		l := make([]string, g.Intn(6))
		for i := range l {
			l[i] = m.anyString(g, g.Intn(5))
		}
		if got, want := fold.Join(l), m.join(l); got != want {
			t.Fatalf("%+q: %+q, want %+q", l, got, want)
		}
	}
}

func TestP6_1NotEncoded(t *testing.T) {
	m := newModel()
	for _, s := range notEncoded() {
		for _, full := range []string{s, "a" + s, s + "b", "a" + s + "b", "a " + s + " b", s + s} {
			checkString(t, m, full)
			if fold.Fold(full) != "" || fold.Search(full) != "" || fold.Is(full) || fold.Alike(full, full) || fold.Alike(full, "a") || fold.Alike("a", full) || fold.Alike(full, "") || fold.Join([]string{full, full}) != "" || fold.Join([]string{"a", full, "b"}) != "a b" {
				t.Errorf("%+q is taken for an encoded string", full)
			}
		}
	}
}

// Long strings must not take the time of the square of their lengths.
func TestP6_1LongStrings(t *testing.T) {
	const n = 1 << 15
	long := strings.Repeat("-É ßж ", n)
	if fold.Fold(long) != strings.Repeat("-e\u0301 ssж ", n) {
		t.Error("the folded form of a long string")
	}
	form := strings.TrimSuffix(strings.Repeat("e ssж ", n), " ")
	if fold.Search(long) != form || !fold.Is(form) || fold.Is(long) || !fold.Alike(long, form) || fold.Alike(long, form+"a") {
		t.Error("the search form of a long string")
	}
	if s := strings.Repeat(" !\u0301", n); fold.Search(s) != "" || fold.Search(s+"a"+s+"b"+s) != "a b" || fold.Is(s) || fold.Alike(s, s) {
		t.Error("a long string with an empty search form")
	}
	if s := long + "\xFF"; fold.Fold(s) != "" || fold.Search(s) != "" || fold.Is(s) || fold.Alike(s, s) || fold.Join([]string{s, "A"}) != "a" {
		t.Error("a long string that is not encoded")
	}
	l := slices.Repeat([]string{"É", "", "ß!", "\xFF", "ж"}, n)
	if fold.Join(l) != strings.TrimSuffix(strings.Repeat("e ss ж ", n), " ") {
		t.Error("a long list")
	}
}

// A list that is an argument must stay as it is.
func TestP6_1Arguments(t *testing.T) {
	l := []string{"É", "", "\xFF", "b"}
	if fold.Join(l[:3]) != "e" || fold.Join(l) != "e b" || !slices.Equal(l, []string{"É", "", "\xFF", "b"}) {
		t.Errorf("%+q", l)
	}
}

// The letters are counted apart from the model's lists, so that one that is missing there is noticed.
func TestP6_1SearchLetters(t *testing.T) {
	m := newModel()
	own := ""
	for _, c := range m.list {
		if fold.Search(string(c)) == string(c) {
			own += string(c)
		}
	}
	want := []rune("0123456789" + searchLetters)
	got := []rune(own)
	slices.Sort(want)
	slices.Sort(got)
	if !slices.Equal(got, want) || rep.Count(own) != 10+26+24+31+3 {
		t.Errorf("%q", own)
	}
}
