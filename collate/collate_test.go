package collate_test

import (
	"bytes"
	"math/rand"
	"slices"
	"strings"
	"testing"

	"bookplate/collate"
	rep "bookplate/repertoire"
)

// P8.1: tailorings

func TestP8_1Limit(t *testing.T) {
	if collate.MaxLetters != 40 {
		t.Error(collate.MaxLetters)
	}
}

// numbered returns a valid tailoring of n letters, at most 676.
func numbered(n int) tailoring {
	var t tailoring
	for i := range n {
		t = append(t, collate.Letter{Text: "q" + string(latinSmall[i/26]) + string(latinSmall[i%26]), After: "q"})
	}
	return t
}

func TestP8_1ValidExamples(t *testing.T) {
	for _, c := range []struct {
		name string
		t    tailoring
		want bool
	}{
		{"the root", nil, true},
		{"the root, too", tailoring{}, true},
		{"one letter", letters("ch", "h"), true},
		{"behind itself", letters("a", "a"), true},
		{"four characters", letters("abcd", "a"), true},
		{"four characters of two bytes", letters("æ\u0323\u0301ж", "a"), true},
		{"what is no letter, but not at the beginning", letters("a1 -", "a", "b\u0301", "a"), true},
		{"a space at the end", letters("a ", "a"), true},
		{"Latin letters without a decomposed form", letters("æ", "z", "ø", "z", "ł", "l", "đ", "d", "ı", "i"), true},
		{"other scripts", letters("σσ", "σ", "и\u0306", "и", "ґ", "г", "нь", "н"), true},
		{"behind the letters of other scripts", letters("a", "α", "b", "ω", "c", "а", "d", "я", "e", "ґ", "f", "є", "g", "і"), true},
		{"several behind the same letter", letters("a\u0301", "z", "b", "z", "c", "z"), true},
		{"beginnings of others", letters("a", "z", "ab", "z", "abc", "z"), true},
		{"marks in order", letters("a\u0327\u0323\u0301", "a"), true},
		{"marks of the same class in any order", letters("a\u0301\u0300", "a", "a\u0300\u0301", "a"), true},
		{"no characters", letters("", "a"), false},
		{"five characters", letters("abcde", "a"), false},
		{"both empty", tailoring{{}}, false},
		{"After is empty", letters("a", ""), false},
		{"After has two letters", letters("a", "bc"), false},
		{"After has a mark", letters("a", "e\u0301"), false},
		{"the same Text", letters("a", "b", "a", "c"), false},
		{"the same letter", letters("a", "b", "a", "b"), false},
		{"the same Text, far from each other", letters("ab", "b", "b", "b", "c", "b", "ab", "c"), false},
		{"the fault is in the last letter", letters("a", "b", "b", "c", "c", "D"), false},
		{"the fault is in the first letter", letters("A", "b", "b", "c", "c", "d"), false},
		{"Text is not encoded", letters("a\xFF", "b"), false},
		{"After is not encoded", letters("a", "\xFF"), false},
		{"Text is not in the repertoire", letters("a中", "b"), false},
		{"After is not in the repertoire", letters("a", "中"), false},
		{"40 letters", numbered(40), true},
		{"41 letters", numbered(41), false},
		{"39 letters and one of them again", append(numbered(39), numbered(1)...), false},
		{"many letters", numbered(676), false},
		{"Swedish", collate.Swedish(), true},
		{"Czech", collate.Czech(), true},
	} {
		if collate.Valid(c.t) != c.want {
			t.Errorf("%s: %v", c.name, !c.want)
		}
	}
}

func TestP8_1ValidTexts(t *testing.T) {
	for _, s := range faultyTexts() {
		if collate.Valid(letters(s, "a")) || collate.Valid(letters("x", "x", s, "a", "y", "a")) {
			t.Errorf("%+q is taken for a Text", s)
		}
	}
	for _, s := range faultyAfters() {
		if collate.Valid(letters("a", s)) || collate.Valid(letters("x", "x", "a", s, "y", "a")) {
			t.Errorf("%+q is taken for an After", s)
		}
	}
	texts, afters := 0, 0
	for _, c := range rep.List() {
		s := string(rune(c))
		if got := collate.Valid(letters(s, "a")); got != modelValid(letters(s, "a")) {
			t.Errorf("Text %+q: %v", s, got)
		} else if got {
			texts++
		}
		if got := collate.Valid(letters("a"+s, "a")); got != modelValid(letters("a"+s, "a")) {
			t.Errorf("Text %+q: %v", "a"+s, got)
		}
		if got := collate.Valid(letters("a", s)); got != strings.Contains(searchLetters, s) {
			t.Errorf("After %+q: %v", s, got)
		} else if got {
			afters++
		}
	}
	// 26 Latin, 24 Greek and 31 Cyrillic letters (without й), and ґ, є, і; of the Texts also the 11 other small Latin letters
	if afters != 84 || texts != 95 {
		t.Error(afters, texts)
	}
}

func TestP8_1Swedish(t *testing.T) {
	want := tailoring{{Text: "a\u030A", After: "z"}, {Text: "a\u0308", After: "z"}, {Text: "o\u0308", After: "z"}}
	if got := collate.Swedish(); !slices.Equal(got, want) {
		t.Errorf("%+q", got)
	}
}

func TestP8_1Czech(t *testing.T) {
	want := tailoring{{Text: "c\u030C", After: "c"}, {Text: "ch", After: "h"}, {Text: "r\u030C", After: "r"}, {Text: "s\u030C", After: "s"}, {Text: "z\u030C", After: "z"}}
	if got := collate.Czech(); !slices.Equal(got, want) {
		t.Errorf("%+q", got)
	}
}

// The tailorings are new ones in every call.
func TestP8_1OwnTailorings(t *testing.T) {
	for _, f := range []func() []collate.Letter{collate.Swedish, collate.Czech} {
		a, b := f(), f()
		clear(a)
		if !collate.Valid(b) || !collate.Valid(f()) || collate.Valid(a) {
			t.Error("two tailorings share their memory")
		}
	}
}

// P8.1: weights

func TestP8_1PrimaryExamples(t *testing.T) {
	chain := letters("a", "b", "ab", "c", "abc", "a", "abcd", "z", "c", "ж")
	for _, c := range []struct {
		t    tailoring
		s    string
		want []int
	}{
		{nil, "", nil},
		{nil, " ", []int{100}}, {nil, "\u00A0", []int{100}},
		{nil, "!", []int{3300}}, {nil, "~", []int{12600}}, {nil, "\uFF01", []int{3300}}, {nil, "-'", []int{4500, 3900}}, {nil, "`", []int{9600}},
		{nil, "0", []int{20000}}, {nil, "9", []int{20900}}, {nil, "¹²³", []int{20100, 20200, 20300}}, {nil, "\uFF15", []int{20500}},
		{nil, "a", []int{30000}}, {nil, "z", []int{32500}}, {nil, "A", []int{30000}}, {nil, "\uFF21", []int{30000}}, {nil, "é", []int{30400}}, {nil, "ſ", []int{31800}}, {nil, "ﬁ", []int{30500, 30800}},
		{nil, "æ", []int{30000, 30400}}, {nil, "Œ", []int{31400, 30400}}, {nil, "þ", []int{31900, 30700}}, {nil, "Ŋ", []int{31300, 30600}}, {nil, "ß", []int{31800, 31800}}, {nil, "ø", []int{31400}}, {nil, "Łł", []int{31100, 31100}}, {nil, "đð", []int{30300, 30300}}, {nil, "ı", []int{30800}},
		{nil, "α", []int{50000}}, {nil, "Ω", []int{52400}}, {nil, "ρσςτ", []int{51600, 51800, 51800, 51900}}, {nil, "ά", []int{50000}},
		{nil, "а", []int{60000}}, {nil, "Я", []int{66200}}, {nil, "й", []int{61600}}, {nil, "ё", []int{61000}},
		{nil, "гґд", []int{60600, 60700, 60800}}, {nil, "еєж", []int{61000, 61100, 61200}}, {nil, "иій", []int{61600, 61700, 61600}}, {nil, "ҐЄІ", []int{60700, 61100, 61700}}, {nil, "ї", []int{61700}},
		{nil, "\u0301", nil}, {nil, "\u0328\u0300", nil}, {nil, "a\u0301b", []int{30000, 30100}},
		{collate.Swedish(), "åäö", []int{32501, 32502, 32503}}, {collate.Swedish(), "ÅA\u030A", []int{32501, 32501}}, {collate.Swedish(), "aoz", []int{30000, 31400, 32500}}, {collate.Swedish(), "åé", []int{32501, 30400}},
		{collate.Czech(), "cčch", []int{30200, 30201, 30702}}, {collate.Czech(), "hřšž", []int{30700, 31703, 31804, 32505}}, {collate.Czech(), "CH Ch cH", []int{30702, 100, 30702, 100, 30702}}, {collate.Czech(), "Čh", []int{30201, 30700}}, {collate.Czech(), "c-h", []int{30200, 4500, 30700}},
		// a mark is not passed over
		{collate.Czech(), "c\u0323\u030C", []int{30200}}, {collate.Czech(), "c\u030C\u0323", []int{30200}}, {collate.Czech(), "c\u030C\u0301", []int{30201}}, {collate.Czech(), "c\u0301\u030C", []int{30200}}, {collate.Czech(), "c\u0301h", []int{30200, 30700}}, {collate.Czech(), "ch\u030C", []int{30702}}, {collate.Czech(), "č\u030C", []int{30201}},
		// the longest Text
		{chain, "a", []int{30101}}, {chain, "ab", []int{30202}}, {chain, "abc", []int{30003}}, {chain, "abcd", []int{32504}}, {chain, "abcabd", []int{30003, 30202, 30300}}, {chain, "aabbac", []int{30101, 30202, 30100, 30101, 61205}}, {chain, "ABCaB", []int{30003, 30202}}, {chain, "bcd", []int{30100, 61205, 30300}},
		// what sorts behind a letter that is itself a Text has the weight of the letter by the other rows
		{letters("a", "b", "b", "a"), "abc", []int{30101, 30002, 30200}}, {letters("b", "c", "a", "b"), "ab", []int{30102, 30201}}, {letters("a", "a"), "aab", []int{30001, 30001, 30100}},
		// the small letters of the string are compared, not its folded form
		{letters("ss", "a"), "ßssSS", []int{31800, 31800, 30001, 30001}}, {letters("ae", "b"), "æae", []int{30000, 30400, 30101}}, {letters("σ", "a"), "ςΣσ", []int{30001, 30001, 30001}}, {letters("fi", "a"), "ﬁFIﬂ", []int{30001, 30001, 30500, 31100}}, {letters("æ", "z"), "Ææae", []int{32501, 32501, 30000, 30400}}, {letters("a ", "b"), "a\u00A0a-a", []int{30101, 30000, 4500, 30000}}, {letters("a1", "b"), "a¹\uFF21\uFF11a2", []int{30101, 30101, 30000, 20200}},
		{letters("и\u0306", "и", "ґ", "г"), "йИ\u0306иґҐ", []int{61601, 61601, 61600, 60602, 60602}},
		{numbered(40), "qaaqboqbnq", []int{31601, 31600, 30100, 31400, 31640, 31600}},
		{numbered(41), "a", nil}, {letters("A", "b"), "a", nil}, {letters("a", ""), "a", nil}, {letters("a", "b", "a", "b"), "a", nil}, {nil, "a\xFF", nil}, {nil, "\n", nil}, {nil, "中", nil}, {collate.Czech(), "ch\xC3", nil},
	} {
		if got := collate.Primary(c.t, c.s); !slices.Equal(got, c.want) {
			t.Errorf("%+q, %+q: %d, want %d", c.t, c.s, got, c.want)
		}
	}
}

func TestP8_1KeyExamples(t *testing.T) {
	for _, c := range []struct {
		t    tailoring
		s    string
		want string
	}{
		{nil, "", "\x00\x00\x00\x00\x00"},
		{nil, "a", "\x00\x75\x30\x00\x00\x00\x01\x00\x01\x00a"},
		{nil, "É", "\x00\x76\xC0\x00\x00\x00\x01\x0B\x00\x02\x01\x00E\u0301"},
		{nil, "\u0328\u0300", "\x00\x00\x00\x32\x0A\x00\x01\x01\x00\u0328\u0300"},
		{nil, "Æ", "\x00\x75\x30\x00\x76\xC0\x00\x00\x00\x02\x02\x00\x02\x02\x00Æ"},
		{nil, "ß", "\x00\x7C\x38\x00\x7C\x38\x00\x00\x00\x02\x02\x00\x01\x01\x00ß"},
		{nil, "ł", "\x00\x79\x7C\x00\x00\x00\x02\x00\x01\x00ł"},
		{nil, "ſ", "\x00\x7C\x38\x00\x00\x00\x01\x00\x01\x00s"},
		{nil, "\u00A0¹", "\x00\x00\x64\x00\x4E\x84\x00\x00\x00\x01\x01\x00\x01\x01\x00 1"},
		{nil, "ς", "\x00\xCA\x58\x00\x00\x00\x01\x00\x02\x00ς"},
		{nil, "σ", "\x00\xCA\x58\x00\x00\x00\x01\x00\x01\x00σ"},
		{nil, "Я", "\x01\x02\x98\x00\x00\x00\x01\x00\x02\x00Я"},
		{nil, "Ї", "\x00\xF1\x04\x00\x00\x00\x01\x12\x00\x02\x01\x00\u0406\u0308"},
		{collate.Czech(), "Čhž", "\x00\x75\xF9\x00\x77\xEC\x00\x7E\xF9\x00\x00\x00\x01\x01\x01\x00\x02\x01\x01\x00C\u030Chz\u030C"},
		{collate.Czech(), "cH", "\x00\x77\xEE\x00\x00\x00\x01\x00\x02\x00cH"},
		{collate.Czech(), "ch\u0301", "\x00\x77\xEE\x00\x00\x00\x01\x0B\x00\x01\x01\x00ch\u0301"},
		{letters("æa", "z", "ł", "l"), "æaÆa\u0142", "\x00\x7E\xF5\x00\x7E\xF5\x00\x79\x7E\x00\x00\x00\x01\x01\x01\x00\x01\x02\x01\x00æaÆał"},
		{letters("a1", "a"), "a1", "\x00\x75\x31\x00\x00\x00\x01\x00\x01\x00a1"},
		{letters("aς", "a"), "aς", ""}, {letters("aσ", "a"), "aς", "\x00\x75\x31\x00\x00\x00\x01\x00\x02\x00aς"},
		{numbered(41), "a", ""}, {letters("a", "bc"), "a", ""}, {letters("", "b"), "", ""}, {nil, "\xFF", ""}, {nil, "a\t", ""},
	} {
		if got := collate.Key(c.t, c.s); string(got) != c.want {
			t.Errorf("%+q, %+q: % X, want % X", c.t, c.s, got, c.want)
		}
	}
}

// P8.1: comparing and sorting

// ascending checks that each string is less than every later one.
func ascending(t *testing.T, l tailoring, strings ...string) {
	t.Helper()
	for i, a := range strings {
		for j, b := range strings {
			want := 0
			if i < j {
				want = -1
			} else if i > j {
				want = 1
			}
			if got := collate.Compare(l, a, b); got != want {
				t.Errorf("%+q and %+q: %d, want %d", a, b, got, want)
			}
		}
	}
}

func TestP8_1CompareExamples(t *testing.T) {
	ascending(t, nil, "cote", "coté", "Coté", "cotes")
	ascending(t, nil, "cote", "cotE", "Cote", "coté", "Coté", "côte", "côté")
	ascending(t, nil, "", " ", "!", "~", "0", "9", "a", "z", "α", "ω", "а", "г", "ґ", "д", "е", "є", "ж", "и", "і", "к", "я")
	ascending(t, nil, "ae", "aE", "Ae", "AE", "ae\u0301", "æ", "Æ", "af")
	ascending(t, nil, "a", "a\u0300", "a\u0301", "a\u0323\u0301", "a\u0327", "a\u0328", "aa", "b")
	// a mark at the end counts less than one at the beginning
	ascending(t, nil, "aaa", "aaá", "aáa", "áaa", "áaá")
	// the levels: letters, then marks, then cases, then bytes
	ascending(t, nil, "AB", "áb", "Áb", "AC", "ac\u0301")
	ascending(t, nil, "Σ", "ς")
	ascending(t, nil, "d", "ð", "đ", "Ð", "Đ", "e")
	ascending(t, nil, "o", "ó", "ø", "Ø", "p")
	// a letter with a mark is ahead of one with other plain letters only if its weights are
	ascending(t, nil, "i", "I", "i\u0307", "ı", "j")
	ascending(t, collate.Swedish(), "apa", "ápa", "orm", "zon", "åka", "Åka", "äpple", "öl")
	ascending(t, nil, "åka", "apa", "äpple", "öl", "orm", "zon")
	ascending(t, collate.Czech(), "cena", "čaj", "dům", "hora", "chata", "CHATA", "imago", "rak", "řeka", "sen", "šaty", "zub", "žaba")
	ascending(t, nil, "čaj", "cena", "chata", "dům", "hora")
	for _, c := range []struct {
		t    tailoring
		a, b string
	}{
		{nil, "", ""}, {nil, "a", "a"}, {nil, "é", "e\u0301"}, {nil, "ﬁ", "fi"}, {nil, "\uFF21", "A"}, {nil, "a\u0323\u0301", "a\u0301\u0323"}, {collate.Swedish(), "å", "a\u030A"},
		// not valid, or not encoded
		{numbered(41), "a", "b"}, {letters("A", "b"), "a", "b"}, {letters("a", "B"), "b", "a"}, {nil, "a", "b\xFF"}, {nil, "a\xFF", "b"}, {nil, "\xFF", ""}, {nil, "", "\xFF"}, {nil, "\n", "中"},
	} {
		if got := collate.Compare(c.t, c.a, c.b); got != 0 {
			t.Errorf("%+q: %+q and %+q: %d", c.t, c.a, c.b, got)
		}
	}
}

func TestP8_1SortExamples(t *testing.T) {
	for _, c := range []struct {
		t       tailoring
		l, want string
	}{
		{nil, "cotes Coté coté cote", "cote coté Coté cotes"},
		{collate.Swedish(), "öl äpple åka zon apa", "apa zon åka äpple öl"},
		{nil, "öl äpple åka zon apa", "åka apa äpple öl zon"},
		{collate.Czech(), "imago chata hora žaba čaj cena", "cena čaj hora chata imago žaba"},
		{nil, "imago chata hora", "chata hora imago"},
		{nil, "b", "b"}, {nil, "b a b a b", "a a b b b"},
		// strings that compare as 0 stay in their order
		{nil, "f e\u0301 é \u00E9 e a", "a e e\u0301 é é f"}, {nil, "f é e\u0301 e a", "a e é e\u0301 f"}, {nil, "fi ﬁ e fi ﬁ", "e fi ﬁ fi ﬁ"},
		// not valid, or not encoded
		{letters("A", "b"), "c b a", "c b a"}, {numbered(41), "c b a", "c b a"}, {nil, "c b\xFF a", "c b\xFF a"}, {nil, "\xC3 b a", "\xC3 b a"}, {nil, "c b a\u2028", "c b a\u2028"}, {nil, "c b 中", "c b 中"},
	} {
		l := strings.Split(c.l, " ")
		if got := strings.Join(collate.Sort(c.t, l), " "); got != c.want {
			t.Errorf("%+q: %+q becomes %+q, want %+q", c.t, c.l, got, c.want)
		}
	}
	if got := collate.Sort(nil, []string{"a", "", " ", "", "-"}); !slices.Equal(got, []string{"", "", " ", "-", "a"}) {
		t.Errorf("%q", got)
	}
	for _, l := range []tailoring{nil, collate.Czech(), letters("A", "b")} {
		if len(collate.Sort(l, nil)) != 0 || len(collate.Sort(l, []string{})) != 0 {
			t.Error("something is sorted that is not there")
		}
	}
}

// P8.1: any arguments

func checkTailoring(t *testing.T, l tailoring) bool {
	t.Helper()
	valid := modelValid(l)
	if collate.Valid(l) != valid {
		t.Fatalf("Valid(%+q) = %v", l, !valid)
	}
	return valid
}

func checkString(t *testing.T, l tailoring, s string) {
	t.Helper()
	if got, want := collate.Primary(l, s), modelPrimary(l, s); !slices.Equal(got, want) {
		t.Fatalf("Primary(%+q, %+q) = %d, want %d", l, s, got, want)
	}
	if got, want := collate.Key(l, s), modelKey(l, s); !bytes.Equal(got, want) {
		t.Fatalf("Key(%+q, %+q) = % X, want % X", l, s, got, want)
	}
}

func checkTwo(t *testing.T, l tailoring, a, b string) int {
	t.Helper()
	want := modelCompare(l, a, b)
	if got := collate.Compare(l, a, b); got != want {
		t.Fatalf("Compare(%+q, %+q, %+q) = %d, want %d", l, a, b, got, want)
	}
	return want
}

// broken returns the string with something that is not encoded in it.
func broken(g *rand.Rand, s string) string {
	wrong := notEncoded()
	at := g.Intn(len(s) + 1)
	return s[:at] + wrong[g.Intn(len(wrong))] + s[at:]
}

func anyAlphabet(g *rand.Rand) []rune {
	return []rune(alphabets()[g.Intn(len(alphabets()))])
}

func TestP8_1AnyTailoring(t *testing.T) {
	g := rand.New(rand.NewSource(81))
	valid := 0
	for i := range 20000 {
		l := anyFaulty(g, anyTailoring(g, anyAlphabet(g), []int{2, 5, 40}[i%3]))
		if checkTailoring(t, l) {
			valid++
			continue
		}
		if len(collate.Primary(l, "a")) != 0 || len(collate.Key(l, "a")) != 0 || collate.Compare(l, "a", "b") != 0 {
			t.Fatalf("%+q is taken for valid", l)
		}
	}
	if valid < 4000 || valid > 16000 {
		t.Error("the tailorings are too much alike:", valid)
	}
}

func TestP8_1AnyString(t *testing.T) {
	g := rand.New(rand.NewSource(82))
	tailored, several := 0, 0
	for i := range 20000 {
		alphabet := anyAlphabet(g)
		l := anyTailoring(g, alphabet, []int{3, 8, 40}[i%3])
		s := anyString(g, l, alphabet, 10)
		if i%20 == 0 {
			l, s = anyFaulty(g, l), broken(g, s)
		}
		checkString(t, l, s)
		if !slices.Equal(collate.Primary(l, s), collate.Primary(nil, s)) {
			tailored++
		}
		if w := collate.Primary(l, s); len(w) > 2 && len(w) < rep.Count(s) {
			several++
		}
	}
	if tailored < 12000 || several < 8000 {
		t.Error("the strings are too much alike:", tailored, several)
	}
}

func TestP8_1AnyTwoStrings(t *testing.T) {
	g := rand.New(rand.NewSource(83))
	results := [3]int{}
	for i := range 20000 {
		alphabet := anyAlphabet(g)
		l := anyTailoring(g, alphabet, []int{3, 8, 40}[i%3])
		a := anyString(g, l, alphabet, 6)
		b := anyNear(g, a, alphabet)
		if i%4 == 0 {
			b = anyString(g, l, alphabet, 6)
		}
		if i%30 == 0 {
			a = broken(g, a)
		}
		if i%30 == 1 {
			b = broken(g, b)
		}
		if i%30 == 2 {
			l = anyFaulty(g, l)
		}
		results[checkTwo(t, l, a, b)+1]++
	}
	if min(results[0], results[1], results[2]) < 3000 {
		t.Error("the strings are too much alike:", results)
	}
}

func TestP8_1AnyList(t *testing.T) {
	g := rand.New(rand.NewSource(84))
	moved := 0
	for i := range 3000 {
		alphabet := anyAlphabet(g)
		t8 := anyTailoring(g, alphabet, []int{3, 8, 40}[i%3])
		l := anyList(g, t8, alphabet, 12)
		if i%20 == 0 {
			t8 = anyFaulty(g, t8)
		}
		if i%20 == 1 && len(l) > 0 {
			at := g.Intn(len(l))
			l[at] = broken(g, l[at])
		}
		before := slices.Clone(l)
		got, want := collate.Sort(t8, l), modelSort(t8, l)
		if !slices.Equal(got, want) || !slices.Equal(l, before) {
			t.Fatalf("Sort(%+q, %+q) = %+q, want %+q", t8, before, got, want)
		}
		if !slices.Equal(got, before) {
			moved++
		}
	}
	if moved < 1500 {
		t.Error("too few lists are out of order:", moved)
	}
}

// anyList returns a list of at most n strings, of which many differ in little or nothing.
func anyList(g *rand.Rand, t tailoring, alphabet []rune, n int) []string {
	var l []string
	for range g.Intn(n + 1) {
		if len(l) > 0 && g.Intn(3) > 0 {
			l = append(l, anyNear(g, l[g.Intn(len(l))], alphabet))
		} else {
			l = append(l, anyString(g, t, alphabet, 4))
		}
	}
	return l
}

func TestP8_1EveryCharacter(t *testing.T) {
	tailorings := []tailoring{nil, collate.Swedish(), collate.Czech(), letters("æ", "z", "ø", "z", "и\u0306", "и", "ґ", "г", "σ", "а", "a\u030C", "b", "fi", "x", "o\u0304\u0301", "q")}
	for _, l := range tailorings {
		for _, c := range rep.List() {
			for _, s := range []string{string(rune(c)), "a" + string(rune(c)), string(rune(c)) + "\u030C\u0301", "z" + string(rune(c)) + "h"} {
				checkString(t, l, s)
			}
		}
	}
}

// Each two characters, in the order in which the document's table has them.
func TestP8_1EveryTwoCharacters(t *testing.T) {
	for _, a := range rep.List() {
		for _, b := range rep.List() {
			if (a+b)%3 == 0 {
				checkTwo(t, nil, string(rune(a)), string(rune(b)))
			}
		}
	}
}

func TestP8_1NotEncoded(t *testing.T) {
	for _, s := range notEncoded() {
		for _, full := range []string{s, "a" + s, s + "b", "a" + s + "b", s + s} {
			for _, l := range []tailoring{nil, collate.Czech(), letters("a", full), letters(full, "a")} {
				checkTailoring(t, l)
				checkString(t, l, full)
				checkTwo(t, l, full, "a")
				checkTwo(t, l, "a", full)
				checkTwo(t, l, full, full)
				list := []string{"c", full, "a"}
				if got := collate.Sort(l, list); !slices.Equal(got, list) || len(collate.Key(l, full)) != 0 || len(collate.Primary(l, full)) != 0 {
					t.Errorf("%+q is taken for an encoded string: %+q", full, got)
				}
			}
		}
	}
}

// Long strings must not take the time of the square of their lengths.
func TestP8_1LongStrings(t *testing.T) {
	const n = 1 << 13
	s := strings.Repeat("čhž ch-Æ1", n)
	weights := collate.Primary(collate.Czech(), s)
	if len(weights) != 9*n || !slices.Equal(weights[:9], []int{30201, 30700, 32505, 100, 30702, 4500, 30000, 30400, 20100}) || !slices.Equal(weights[9*n-9:], weights[:9]) {
		t.Error("the weights of a long string")
	}
	if key := collate.Key(collate.Czech(), s); len(key) != 5+27*n+9*n+9*n+14*n {
		t.Error("the key of a long string has", len(key), "bytes")
	}
	for _, c := range []struct {
		a, b string
		want int
	}{{"", "", 0}, {"", "a", -1}, {"a", "á", -1}, {"A", "a", 1}, {"b", "aaa", 1}, {"é", "e\u0301", 0}, {"a\xFF", "b", 0}} {
		if got := collate.Compare(collate.Czech(), s+c.a, s+c.b); got != c.want {
			t.Errorf("%+q and %+q behind a long string: %d", c.a, c.b, got)
		}
	}
	if long := strings.Repeat("\u0301\u0323", n); len(collate.Primary(nil, long)) != 0 || collate.Compare(nil, "a", long) != 1 || collate.Compare(nil, "", long) != -1 {
		t.Error("a long string of marks")
	}
	var l []string
	for i := range n {
		l = append(l, string([]rune{'a' + rune(i*7%26), 'č', 'a' + rune(i*11/26%26)}))
	}
	sorted := collate.Sort(collate.Czech(), l)
	for i := 1; i < len(sorted); i++ {
		if collate.Compare(collate.Czech(), sorted[i-1], sorted[i]) > 0 {
			t.Fatal("a long list is out of order")
		}
	}
	long := strings.Repeat("a", n)
	for _, bad := range []tailoring{letters(long, "a"), letters("a", long), slices.Repeat(letters("a", "b"), n), make(tailoring, n)} {
		if collate.Valid(bad) || len(collate.Key(bad, long)) != 0 || len(collate.Primary(bad, long)) != 0 || collate.Compare(bad, long, "") != 0 || collate.Sort(bad, []string{long, ""})[0] != long {
			t.Error("a tailoring that is too long")
		}
	}
}

// The arguments must stay as they are, also behind their ends, and results are new memory.
func TestP8_1Arguments(t *testing.T) {
	l := letters("ab", "z", "a", "b", "abc", "d", "q", "q")
	before := slices.Clone(l)
	list := []string{"ab", "abc", "a", "b", "x", "y"}
	listBefore := slices.Clone(list)
	if got := collate.Sort(l[:3], list[:4]); !slices.Equal(got, []string{"b", "a", "abc", "ab"}) {
		t.Errorf("%q", got)
	}
	if collate.Compare(l[:3], "ab", "abc") != 1 || !slices.Equal(collate.Primary(l[:3], "q"), []int{31600}) || !slices.Equal(l, before) || !slices.Equal(list, listBefore) {
		t.Errorf("%q, %q", l, list)
	}
	for _, bad := range []tailoring{nil, letters("A", "b")} {
		same := []string{"a", "b"}
		clear(collate.Sort(bad, same))
		if same[0] != "a" || same[1] != "b" {
			t.Error("the sorted list is the list itself")
		}
	}
	a, b := collate.Key(nil, "abc"), collate.Key(nil, "abc")
	clear(a)
	if !bytes.Equal(b, modelKey(nil, "abc")) || !bytes.Equal(collate.Key(nil, "abc"), b) {
		t.Error("two keys share their memory")
	}
}
