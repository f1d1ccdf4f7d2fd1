package article_test

import (
	"math/rand"
	"slices"
	"strings"
	"testing"

	"bookplate/article"
	"bookplate/fold"
	rep "bookplate/repertoire"
)

// P9.1: languages and articles

func TestP9_1Languages(t *testing.T) {
	want := []string{"dan", "dut", "eng", "fre", "ger", "gre", "ita", "por", "spa", "swe"}
	if l := article.Languages(); !slices.Equal(l, want) {
		t.Errorf("%q", l)
	}
}

func TestP9_1Articles(t *testing.T) {
	for _, r := range table() {
		if l := article.Articles(r.lang); !slices.Equal(l, r.articles) {
			t.Errorf("%s: %+q, want %+q", r.lang, l, r.articles)
		}
	}
	for _, lang := range otherLanguages() {
		if l := article.Articles(lang); len(l) != 0 {
			t.Errorf("%.20q: %q", lang, l)
		}
	}
}

// Many letters of these articles look like Latin ones.
func TestP9_1GreekArticles(t *testing.T) {
	for _, a := range article.Articles("gre") {
		if rep.Script(a) != rep.Greek {
			t.Errorf("%+q is not Greek", a)
		}
	}
}

// The ways to write articles that the model knows are those that have them as their folded form.
func TestP9_1Writings(t *testing.T) {
	for _, r := range table() {
		for _, c := range strings.Join(r.articles, "") {
			for _, x := range characters {
				if known := slices.Contains(writings(c), rune(x)); known != (fold.Fold(string(rune(x))) == string(c)) {
					t.Errorf("%c as %c: %v", c, x, known)
				}
			}
		}
	}
}

// P9.1: titles

// checkTitle checks what is said about a title: its article, as it stands there, and its rest; no article if this is empty.
func checkTitle(t *testing.T, lang, title, begin, rest string) {
	t.Helper()
	skip, strip, invert := len(title)-len(rest), rest, rest+", "+begin
	if begin == "" {
		skip, strip, invert = 0, title, title
	}
	if got := article.Skip(lang, title); got != skip {
		t.Errorf("Skip(%.20q, %+.60q) = %d, want %d", lang, title, got, skip)
	}
	if got := article.Strip(lang, title); got != strip {
		t.Errorf("Strip(%.20q, %+.60q) = %+.60q, want %+.60q", lang, title, got, strip)
	}
	if got := article.Invert(lang, title); got != invert {
		t.Errorf("Invert(%.20q, %+.60q) = %+.60q, want %+.60q", lang, title, got, invert)
	}
}

func TestP9_1WithArticle(t *testing.T) {
	for _, c := range []struct{ lang, title, begin, rest string }{
		{"eng", "The  End", "The", "End"}, {"fre", "L'avare", "L'", "avare"}, {"ger", "Die Räuber", "Die", "Räuber"},
		{"eng", "the end", "the", "end"}, {"eng", "THE END", "THE", "END"}, {"eng", "tHe e", "tHe", "e"}, {"eng", "A tale", "A", "tale"}, {"eng", "An hour", "An", "hour"}, {"eng", "a a", "a", "a"}, {"eng", "A a an the", "A", "a an the"},
		{"eng", "The     End of the  World ", "The", "End of the  World "}, {"eng", "A 1", "A", "1"}, {"eng", "A !", "A", "!"}, {"eng", "A -b", "A", "-b"}, {"eng", "The 'end'", "The", "'end'"},
		// a space of another kind, or a mark, is not U+0020
		{"eng", "The \u00A0", "The", "\u00A0"}, {"eng", "The \u00A0 End", "The", "\u00A0 End"}, {"eng", "The  \u0301End", "The", "\u0301End"}, {"fre", "L'\u00A0avare", "L'", "\u00A0avare"}, {"fre", "l'\u0301a", "l'", "\u0301a"},
		// fullwidth letters and the long s
		{"eng", "\uFF34\uFF28\uFF25 End", "\uFF34\uFF28\uFF25", "End"}, {"eng", "\uFF41 b", "\uFF41", "b"}, {"fre", "\uFF2C\uFF07avare", "\uFF2C\uFF07", "avare"}, {"fre", "l\uFF07\uFF41", "l\uFF07", "\uFF41"}, {"dut", "\uFF07t Huis", "\uFF07t", "Huis"}, {"ger", "da\u017F Haus", "da\u017F", "Haus"}, {"fre", "De\u017F Esseintes", "De\u017F", "Esseintes"},
		// an apostrophe at the end has no space behind it, one at the beginning does
		{"fre", "l'a", "l'", "a"}, {"fre", "L''", "L'", "'"}, {"fre", "l'l'a", "l'", "l'a"}, {"fre", "L'Été - à Łódź!", "L'", "Été - à Łódź!"}, {"fre", "L'an  mil", "L'", "an  mil"}, {"fre", "l'a ", "l'", "a "}, {"fre", "L'le roi", "L'", "le roi"}, {"ita", "L'arte", "L'", "arte"},
		{"dut", "'t Huis", "'t", "Huis"}, {"dut", "'T  huis", "'T", "huis"}, {"dut", "'t 't", "'t", "'t"}, {"dut", "Het Huis", "Het", "Huis"}, {"dut", "Een e", "Een", "e"}, {"dut", "De 't", "De", "'t"},
		{"fre", "Le le", "Le", "le"}, {"fre", "La l'a", "La", "l'a"}, {"fre", "Les Misérables", "Les", "Misérables"}, {"fre", "Un été", "Un", "été"}, {"fre", "Une vie", "Une", "vie"},
		{"ita", "I promessi sposi", "I", "promessi sposi"}, {"ita", "Gli indifferenti", "Gli", "indifferenti"}, {"ita", "Il Gattopardo", "Il", "Gattopardo"}, {"ita", "Uno nessuno", "Uno", "nessuno"},
		{"por", "Os Lusíadas", "Os", "Lusíadas"}, {"por", "O o", "O", "o"}, {"por", "As a", "As", "a"}, {"por", "Uma b", "Uma", "b"}, {"spa", "El Quijote", "El", "Quijote"}, {"spa", "Los de abajo", "Los", "de abajo"},
		{"swe", "Ett drömspel", "Ett", "drömspel"}, {"dan", "Et dukkehjem", "Et", "dukkehjem"}, {"swe", "Den unge", "Den", "unge"},
		{"gre", "Ο ζορμπάς", "Ο", "ζορμπάς"}, {"gre", "η πόλις", "η", "πόλις"}, {"gre", "ΤΟ άξιον", "ΤΟ", "άξιον"}, {"gre", "Οι  θεοί", "Οι", "θεοί"}, {"gre", "τΑ παιδιά", "τΑ", "παιδιά"},
	} {
		checkTitle(t, c.lang, c.title, c.begin, c.rest)
	}
}

func TestP9_1WithoutArticle(t *testing.T) {
	for lang, titles := range map[string][]string{
		"eng": {
			"", " ", "the", "The", "The ", "The     ", "a", "A ", "Theend", "Thee end", "Th end", "End", "End the", "Then the end", " The end", "  the", "-the end", "\"The end\"", "The-end", "The, end", "Thé end", "The\u0301 end", "\u0301The end",
			"The\u00A0End", "The\u00A0 End", "The\u00A0\u00A0 End", "\u00A0The End", "th e end", "t he", "aa b", "á b", "æ b", "The' end", "a'b", "a'b c", "'a b", "Τhe end", "\u0430 b", "\u0391 b", "t'avare", "L'avare", "Die Räuber", "el a", "\uFF34he", "\uFF34he ",
		},
		"fre": {
			"", "l", "L", "l'", "L'", "l' ", "l' avare", "L'  avare", "L ' avare", "l avare", "l-avare", "L`avare", "d'avare", "'l avare", "'l' avare", " l'avare", "ll'avare", "l\u0301'avare", "ĺ'avare", "ł'avare", "l\uFF07", "\uFF4C' a", "l'\u0020\u00A0a", "Lé a", "La", "Le ", "Lesa b", "leavare", "la", "un", "The end", "\u0301l'a",
		},
		"dut": {"'t", "'T", "'t ", "'tHuis", "'thuis b", "t Huis", "' t Huis", "''t Huis", "'t' Huis", "t' Huis", "t'Huis", "`t Huis", "'\u0301t Huis", "'t\u00A0Huis", "Heta b", "Hét huis", "één b"},
		"ger": {"Das", "daß Haus", "Da\u017F\u017F Haus", "das\u00A0Haus", "Der,die das", "Den Haag", "Einen a"},
		"gre": {"Ό ζ", "ό ζ", "ή ζ", "Ο", "Οζ", "o z", "O z", "H z", "\u041E z", "TO z", "Οἱ", "τό ζ", "Ος ζ"},
		"por": {"ο ζ", "ó b", "õ b", "ø b", "à b", "Um", "Osb c", "o\u0328 b"},
		"spa": {"L'a", "Unas a", "Él a", "el"}, "ita": {"Uno, nessuno", "l' a", "ı b", "ì b", "Gl a"}, "dan": {"ett a", "de a"}, "swe": {"et a", "e a"},
	} {
		for _, title := range titles {
			checkTitle(t, lang, title, "", "")
		}
	}
}

// A language has none of the articles that only other languages have.
func TestP9_1EveryLanguage(t *testing.T) {
	for _, r := range table() {
		for _, a := range r.articles {
			title := a + " x"
			if strings.HasSuffix(a, "'") {
				title = a + "x"
			}
			for _, lang := range append(article.Languages(), otherLanguages()...) {
				if slices.Contains(articlesOf(lang), a) {
					checkTitle(t, lang, title, a, "x")
				} else {
					checkTitle(t, lang, title, "", "")
				}
			}
		}
	}
}

// Wherever it stands, what is not encoded keeps a title from having an article.
func TestP9_1NotEncoded(t *testing.T) {
	for _, wrong := range notEncoded() {
		for lang, title := range map[string]string{"eng": "The  End", "fre": "L'avare", "dut": "'t Huis", "gre": "Το άξιον", "": "x"} {
			for at := range len(title) + 1 {
				bad := title[:at] + wrong + title[at:]
				if at == len(title) || title[at]&0xC0 != 0x80 {
					checkTitle(t, lang, bad, "", "")
					checkSort(t, bad, 2, bad)
				}
			}
		}
	}
	for _, bad := range []string{"\xFFThe End", "The End\xC3", "The \xA9", "The \xA0End", "Th\xE9 End"} {
		checkTitle(t, "eng", bad, "", "")
		checkSort(t, bad, 4, bad)
	}
}

func TestP9_1AnyTitle(t *testing.T) {
	g := rand.New(rand.NewSource(91))
	found, spaces := 0, 0
	for range 60000 {
		lang := anyLang(g)
		title := anyTitle(g, lang)
		begin, rest := modelDivide(lang, title)
		if checkTitle(t, lang, title, begin, rest); t.Failed() {
			return
		}
		if begin != "" {
			found++
			if len(begin)+len(rest)+1 < len(title) {
				spaces++
			}
		}
	}
	if found < 15000 || found > 50000 || spaces < 5000 {
		t.Error("the titles are too much alike:", found, spaces)
	}
}

// All short titles of the characters that matter, in all languages with some of these articles.
func TestP9_1ShortTitles(t *testing.T) {
	alphabet := []rune("aAlL' e\u00A0\u0301\uFF07\uFF41\u03B7")
	titles, last := []string{""}, []string{""}
	for range 4 {
		var longer []string
		for _, s := range last {
			for _, c := range alphabet {
				longer = append(longer, s+string(c))
			}
		}
		titles, last = append(titles, longer...), longer
	}
	for _, lang := range []string{"eng", "fre", "ita", "spa", "gre", "xxx"} {
		for _, title := range titles {
			begin, rest := modelDivide(lang, title)
			if checkTitle(t, lang, title, begin, rest); t.Failed() {
				return
			}
		}
	}
}

func TestP9_1LongTitles(t *testing.T) {
	const n = 1 << 20
	long := strings.Repeat("é ﬁ", n)
	checkTitle(t, "eng", "The "+long, "The", long)
	checkTitle(t, "eng", "The"+long, "", "")
	checkTitle(t, "eng", "The "+long+"\xFF", "", "")
	checkTitle(t, "eng", "The"+strings.Repeat(" ", n)+"x", "The", "x")
	checkTitle(t, "eng", "The"+strings.Repeat(" ", n), "", "")
	checkTitle(t, "fre", "L'"+long, "L'", long)
	checkTitle(t, "fre", strings.Repeat("l", n)+"'a", "", "")
	checkTitle(t, "por", strings.Repeat("o", n)+" a", "", "")
	checkTitle(t, "xxx", long, "", "")
	checkSort(t, "The "+long, 4, long)
	checkSort(t, "The"+strings.Repeat(" ", n)+"x", 3, "x")
	checkSort(t, "The"+strings.Repeat(" ", n), 3, "The"+strings.Repeat(" ", n))
	checkSort(t, long+"\xFF", 1, long+"\xFF")
}

// P9.1: nonfiling characters

func checkSort(t *testing.T, title string, nonfiling int, want string) {
	t.Helper()
	if got := article.Sort(title, nonfiling); got != want {
		t.Errorf("Sort(%+.60q, %d) = %+.60q, want %+.60q", title, nonfiling, got, want)
	}
}

func TestP9_1SortExamples(t *testing.T) {
	for _, c := range []struct {
		title     string
		nonfiling int
		want      string
	}{
		{"Die Räuber", 4, "Räuber"}, {"Die Räuber", 3, "Räuber"}, {"Die Räuber", 1, "ie Räuber"}, {"Die Räuber", 5, "äuber"}, {"Die Räuber", 6, "uber"}, {"Die Räuber", 9, "r"}, {"Die Räuber", 0, "Die Räuber"}, {"Die Räuber", 10, "Die Räuber"},
		{"The  End", 3, "End"}, {"The  End", 4, "End"}, {"The  End", 5, "End"}, {"The  End", 6, "nd"}, {"The  End", 7, "d"}, {"The  End", 8, "The  End"}, {"The  End", 9, "The  End"},
		{"0123456789", 1, "123456789"}, {"0123456789", 8, "89"}, {"0123456789", 9, "9"}, {"0123456789", 10, "0123456789"}, {"0123456789", 11, "0123456789"}, {"0123456789", -1, "0123456789"}, {"0123456789", 0, "0123456789"}, {"0123456789", least, "0123456789"}, {"0123456789", greatest, "0123456789"}, {"0123456789", 1<<32 + 1, "0123456789"}, {"0123456789", 1<<8 + 1, "0123456789"},
		{"012345678", 8, "8"}, {"012345678", 9, "012345678"}, {"ab", 1, "b"}, {"ab", 2, "ab"}, {"ab", 3, "ab"}, {"a", 1, "a"}, {"a", 0, "a"}, {"", 0, ""}, {"", 1, ""}, {"", 9, ""}, {"", -1, ""}, {"", 10, ""},
		// characters, not bytes
		{"ÀÉß \u03B1\u0436ﬁ", 3, "\u03B1\u0436ﬁ"}, {"ÀÉß \u03B1\u0436ﬁ", 5, "\u0436ﬁ"}, {"ÀÉß \u03B1\u0436ﬁ", 6, "ﬁ"}, {"ÀÉß \u03B1\u0436ﬁ", 7, "ÀÉß \u03B1\u0436ﬁ"}, {"\uFF2C\uFF07avare", 2, "avare"}, {"e\u0301a", 1, "\u0301a"}, {"e\u0301a", 2, "a"},
		// spaces
		{"a b", 1, "b"}, {"a b ", 1, "b "}, {"a b ", 2, "b "}, {"a b ", 3, "a b "}, {"a    b", 1, "b"}, {"a    b", 3, "b"}, {"a ", 1, "a "}, {"a    ", 1, "a    "}, {"a    ", 4, "a    "}, {"    ", 1, "    "}, {"    ", 0, "    "}, {"  a", 1, "a"}, {"  a", 2, "a"}, {"  a", 3, "  a"}, {"  a", 0, "  a"}, {" a", -1, " a"}, {" a", 10, " a"}, {" a", 11, " a"}, {"   a b", 1, "a b"},
		{"a\u00A0b", 1, "\u00A0b"}, {"a \u00A0 b", 1, "\u00A0 b"}, {"a \u00A0", 1, "\u00A0"}, {"a\u00A0", 1, "\u00A0"}, {"a\u00A0 b", 2, "b"},
		// whether there is an article does not matter
		{"The end", 1, "he end"}, {"L'avare", 2, "avare"}, {"\"The end\"", 5, "end\""}, {"- - -", 1, "- -"},
		{"abc\xFF", 1, "abc\xFF"}, {"\xFFabc", 1, "\xFFabc"}, {"a \n", 1, "a \n"}, {" a\xFF", 1, " a\xFF"}, {"  \u3000", 1, "  \u3000"}, {"a 中", 2, "a 中"},
	} {
		checkSort(t, c.title, c.nonfiling, c.want)
	}
}

func TestP9_1AnySort(t *testing.T) {
	g := rand.New(rand.NewSource(92))
	changed := 0
	for range 40000 {
		title, n := anyTitle(g, anyLang(g)), g.Intn(14)-2
		want := modelSort(title, n)
		if got := article.Sort(title, n); got != want {
			t.Fatalf("Sort(%+q, %d) = %+q, want %+q", title, n, got, want)
		}
		if want != title {
			changed++
		}
	}
	if changed < 10000 || changed > 35000 {
		t.Error("the titles are too much alike:", changed)
	}
}

// Results must be new memory, and the same in each call.
func TestP9_1Memory(t *testing.T) {
	clear(article.Languages())
	for _, r := range table() {
		clear(article.Articles(r.lang))
	}
	l := article.Languages()
	for i, r := range table() {
		if len(l) != 10 || l[i] != r.lang || !slices.Equal(article.Articles(r.lang), r.articles) {
			t.Errorf("%s: results are kept", r.lang)
		}
	}
	_ = append(article.Articles("eng"), "x")
	checkTitle(t, "eng", "The end", "The", "end")
	checkTitle(t, "eng", "x end", "", "")
}
