package article_test

import (
	"math/rand"
	"slices"
	"strings"
	"unicode"
	"unicode/utf8"

	rep "bookplate/repertoire"
)

// The model compares titles with articles character by character, and knows the ways to write each of them; it folds nothing, and shares no code with the package. What is encoded is asked of layer 4.

const (
	least    = -1 << 63
	greatest = 1<<63 - 1
)

// characters are those of the repertoire.
var characters = rep.List()

// rows are those of the chapter's table.
const rows = `dan: en, et, den, det
dut: de, het, een, 't
eng: the, a, an
fre: le, la, les, l', un, une, des
ger: der, die, das, ein, eine
gre: ο, η, το, οι, τα
ita: il, lo, la, i, gli, le, l', un, uno, una
por: o, a, os, as, um, uma
spa: el, la, los, las, un, una
swe: en, ett, den, det`

type row struct {
	lang     string
	articles []string
}

func table() []row {
	var l []row
	for _, line := range strings.Split(rows, "\n") {
		lang, list, _ := strings.Cut(line, ": ")
		l = append(l, row{lang, strings.Split(list, ", ")})
	}
	return l
}

// otherLanguages have no articles.
func otherLanguages() []string {
	return []string{"", " ", "en", "ENG", "Eng", "eng ", " eng", "engl", "eng\x00", "english", "the", "lat", "rus", "nor", "nob", "fra", "deu", "nld", "ell", "xxx", "\xFF", "e\u0301ng", "\uFF45\uFF4E\uFF47", "dan,dut", strings.Repeat("eng", 1<<16)}
}

func articlesOf(lang string) []string {
	for _, r := range table() {
		if r.lang == lang {
			return r.articles
		}
	}
	return nil
}

// writings returns all characters whose folded form is a character of an article.
func writings(c rune) []rune {
	l := []rune{c}
	if unicode.IsLetter(c) {
		l = append(l, unicode.ToUpper(c))
	}
	for _, x := range slices.Clone(l) {
		if x <= '~' {
			l = append(l, x+0xFEE0)
		}
	}
	if c == 's' {
		l = append(l, 0x17F)
	}
	return l
}

// isWritten reports whether characters are one of the ways to write an article.
func isWritten(l []rune, article string) bool {
	if len(l) != utf8.RuneCountInString(article) {
		return false
	}
	for i, c := range []rune(article) {
		if !slices.Contains(writings(c), l[i]) {
			return false
		}
	}
	return true
}

func encoded(s string) bool {
	_, ok := rep.Decode(s)
	return ok
}

// modelDivide returns the article of a title as it stands there, and the rest; nothing and the title if there is none.
func modelDivide(lang, title string) (article, rest string) {
	if !encoded(title) {
		return "", title
	}
	l := []rune(title)
	for _, a := range articlesOf(lang) {
		n := utf8.RuneCountInString(a)
		if len(l) <= n || !isWritten(l[:n], a) {
			continue
		}
		behind := string(l[n:])
		rest := strings.TrimLeft(behind, " ")
		if rest != "" && (rest == behind) == strings.HasSuffix(a, "'") {
			return string(l[:n]), rest
		}
	}
	return "", title
}

func modelSort(title string, nonfiling int) string {
	l := []rune(title)
	if !encoded(title) || nonfiling < 1 || nonfiling > 9 || nonfiling >= len(l) {
		return title
	}
	for l = l[nonfiling:]; len(l) > 0; l = l[1:] {
		if l[0] != ' ' {
			return string(l)
		}
	}
	return title
}

func anyOf[T any](g *rand.Rand, l []T) T {
	return l[g.Intn(len(l))]
}

func anyLang(g *rand.Rand) string {
	if g.Intn(20) == 0 {
		return anyOf(g, otherLanguages())
	}
	return anyOf(g, table()).lang
}

// anyWriting returns an article in one of the ways to write it.
func anyWriting(g *rand.Rand, article string) string {
	s := ""
	usual := g.Intn(2) == 0
	for i, c := range []rune(article) {
		switch {
		case usual && i == 0:
			s += string(unicode.ToUpper(c))
		case usual:
			s += string(c)
		default:
			s += string(anyOf(g, writings(c)))
		}
	}
	return s
}

// anyChanged returns what is often no article, or another one.
func anyChanged(g *rand.Rand, s string) string {
	l := []rune(s)
	at := g.Intn(len(l) + 1)
	extra := []rune("\u0301\u0327'\uFF07 \u00A0-sﬁßeot\u03BF\u03CC\u0430")
	switch g.Intn(4) {
	case 0:
		l = slices.Insert(l, at, anyOf(g, extra))
	case 1:
		l = append(l, anyOf(g, extra))
	case 2:
		l = slices.Delete(l, max(at-1, 0), at)
	case 3:
		l[g.Intn(len(l))] = anyOf(g, extra)
	}
	return string(l)
}

// anyEncoded returns an encoded string, often with spaces.
func anyEncoded(g *rand.Rand, max int) string {
	l := make([]rune, g.Intn(max+1))
	for i := range l {
		switch g.Intn(4) {
		case 0:
			l[i] = ' '
		case 1:
			l[i] = anyOf(g, []rune("aelo'\u00A0\u0301\uFF07"))
		default:
			l[i] = rune(anyOf(g, characters))
		}
	}
	return string(l)
}

// anyTitle returns a title that begins with an article of the language, or would but for one place.
func anyTitle(g *rand.Rand, lang string) string {
	list := articlesOf(lang)
	if len(list) == 0 || g.Intn(6) == 0 {
		list = anyOf(g, table()).articles
	}
	article := anyOf(g, list)
	s := anyWriting(g, article)
	if g.Intn(4) == 0 {
		s = anyChanged(g, s)
	}
	gaps := []string{" ", " ", " ", "  ", "   ", ""}
	if strings.HasSuffix(article, "'") {
		gaps = []string{"", "", "", "", " ", "  "}
	}
	s += anyOf(g, gaps) + anyEncoded(g, anyOf(g, []int{1, 4, 8, 12}))
	switch g.Intn(20) {
	case 0:
		at := g.Intn(len(s) + 1)
		s = s[:at] + anyOf(g, notEncoded()) + s[at:]
	case 1:
		s += anyOf(g, notEncoded())
	case 2:
		s = s[:g.Intn(len(s)+1)]
	case 3:
		s = " " + s
	}
	return s
}

// anyRest returns what may follow an article: it is not empty, and does not begin with a space.
func anyRest(g *rand.Rand) string {
	return string(rune(anyOf(g, characters[1:]))) + anyEncoded(g, 12)
}

// notEncoded returns strings that are not encoded, neither alone nor between encoded ones.
func notEncoded() []string {
	return []string{
		"\x00", "\t", "\n", "\x7F", // control characters
		"\x80", "\xA0", "\xFF", "\xC1\xA1", "\xE0\x83\xA9", "\xED\xA0\x80", "\xF4\x90\x80\x80", // no encodings
		"\uFFFD", "\uFEFF", "\U0010FFFF", "\u2019", "\u02BC", "\u2002", "\u3000", "\u0305", "\u03A2", "中", // not in the repertoire
	}
}
