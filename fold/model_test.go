package fold_test

import (
	"math/rand"
	"strings"
	"unicode"

	"bookplate/normal"
	rep "bookplate/repertoire"
)

// The model takes small letters and plain letters from lists, and works on whole strings, a step after the other; it shares no code with the package. What is encoded is asked of layer 4, the decomposed form of layer 5.

const (
	latinCapitals    = "ABCDEFGHIJKLMNOPQRSTUVWXYZÆØÐÞĐĦŁŒŊŦ"
	latinSmall       = "abcdefghijklmnopqrstuvwxyzæøðþđħłœŋŧ"
	greekCapitals    = "ΑΒΓΔΕΖΗΘΙΚΛΜΝΞΟΠΡΣΤΥΦΧΨΩ"
	greekSmall       = "αβγδεζηθικλμνξοπρστυφχψω"
	cyrillicCapitals = "АБВГДЕЖЗИЙКЛМНОПРСТУФХЦЧШЩЪЫЬЭЮЯІЄҐ"
	cyrillicSmall    = "абвгдежзийклмнопрстуфхцчшщъыьэюяієґ"
)

const finalSigma, sigma = '\u03C2', '\u03C3'

// searchLetters are the letters that search forms may have: those without marks, of which none has plain letters.
const searchLetters = "abcdefghijklmnopqrstuvwxyz" + greekSmall + "абвгдежзиклмнопрстуфхцчшщъыьэюяієґ"

type model struct {
	small map[rune]rune
	plain map[rune]string
	list  []rune
	marks []rune
}

func newModel() *model {
	m := &model{small: map[rune]rune{finalSigma: sigma}}
	m.putSmall(latinCapitals, latinSmall)
	m.putSmall(greekCapitals, greekSmall)
	m.putSmall(cyrillicCapitals, cyrillicSmall)
	m.plain = map[rune]string{'æ': "ae", 'œ': "oe", 'ø': "o", 'ð': "d", 'đ': "d", 'þ': "th", 'ħ': "h", 'ı': "i", 'ł': "l", 'ŋ': "ng", 'ŧ': "t"}
	for _, c := range rep.List() {
		m.list = append(m.list, rune(c))
		if unicode.Is(unicode.Mn, rune(c)) {
			m.marks = append(m.marks, rune(c))
		}
	}
	return m
}

func (m *model) putSmall(capitals, small string) {
	to := []rune(small)
	for i, c := range []rune(capitals) {
		m.small[c] = to[i]
	}
}

func encoded(s string) bool {
	_, ok := rep.Decode(s)
	return ok
}

func (m *model) lower(c rune) rune {
	if to, ok := m.small[c]; ok {
		return to
	}
	return c
}

func (m *model) fold(s string) string {
	if !encoded(s) {
		return ""
	}
	return strings.Map(m.lower, strings.ReplaceAll(normal.Decompose(s), "ß", "ss"))
}

func (m *model) search(s string) string {
	withoutMarks := strings.Map(func(c rune) rune {
		switch {
		case unicode.Is(unicode.Mn, c):
			return -1
		case unicode.IsLetter(c), '0' <= c && c <= '9':
			return c
		}
		return ' '
	}, m.fold(s))
	for from, to := range m.plain {
		withoutMarks = strings.ReplaceAll(withoutMarks, string(from), to)
	}
	return strings.Join(strings.Fields(withoutMarks), " ")
}

func (m *model) is(s string) bool {
	return s != "" && m.search(s) == s
}

func (m *model) alike(a, b string) bool {
	return encoded(a) && encoded(b) && m.search(a) != "" && m.search(a) == m.search(b)
}

func (m *model) join(l []string) string {
	joined := ""
	for _, s := range l {
		joined += " " + m.search(s)
	}
	return strings.Join(strings.Fields(joined), " ")
}

// anyCharacter prefers what the forms change.
func (m *model) anyCharacter(g *rand.Rand) rune {
	few := []rune("ßÆæÐðĐđÞþĦħıİŁłŊŋŒœØøŦŧſﬁﬂΣσςЙйЁёІЄҐЇ")
	switch g.Intn(10) {
	case 0, 1:
		return few[g.Intn(len(few))]
	case 2, 3:
		return m.list[g.Intn(len(m.list))]
	case 4:
		return m.marks[g.Intn(len(m.marks))]
	case 5, 6:
		return []rune(" \u00A0-'.,!²³¹0\uFF0D\uFF10")[g.Intn(13)]
	case 7:
		return 'A' + rune(g.Intn(26))
	}
	return 'a' + rune(g.Intn(26))
}

func (m *model) anyEncoded(g *rand.Rand, max int) string {
	l := make([]rune, g.Intn(max+1))
	for i := range l {
		l[i] = m.anyCharacter(g)
	}
	return string(l)
}

// anyString returns a string that is encoded, or would be but for one place.
func (m *model) anyString(g *rand.Rand, max int) string {
	s := m.anyEncoded(g, max)
	at := g.Intn(len(s) + 1)
	wrong := notEncoded()
	switch g.Intn(8) {
	case 0:
		return s[:at]
	case 1:
		return s[:at] + wrong[g.Intn(len(wrong))] + s[at:]
	}
	return s
}

// anyForm returns a string that is its own search form.
func (m *model) anyForm(g *rand.Rand, max int) string {
	letters := []rune(searchLetters + "0123456789")
	words := make([]string, 1+g.Intn(4))
	for i := range words {
		for range 1 + g.Intn(max) {
			words[i] += string(letters[g.Intn(len(letters))])
		}
	}
	return strings.Join(words, " ")
}

// anyEqual returns a string with the same decomposed form: some characters are written in another way, and some marks of different classes change places.
func (m *model) anyEqual(g *rand.Rand, s string) string {
	var l []rune
	for _, c := range s {
		switch other := normal.Decompose(string(c)); {
		case g.Intn(2) == 0:
			l = append(l, c)
		case other != string(c):
			l = append(l, []rune(other)...)
		case ' ' < c && c <= '~':
			l = append(l, c-0x21+0xFF01)
		case c == ' ':
			l = append(l, 0xA0)
		default:
			l = append(l, c)
		}
	}
	for range len(l) {
		i := g.Intn(len(l))
		if i == 0 {
			continue
		}
		if a, b := markClass(l[i-1]), markClass(l[i]); a > 0 && b > 0 && a != b {
			l[i-1], l[i] = l[i], l[i-1]
		}
	}
	return string(l)
}

// anyAlike returns a string with the same search form, for one that is encoded: letters get other cases and marks, and spaces get company.
func (m *model) anyAlike(g *rand.Rand, s string) string {
	var l []rune
	for _, c := range normal.Decompose(s) {
		if c == ' ' {
			l = append(l, []rune([]string{" ", " ", "-", " - ", "\u00A0 ", ".'"}[g.Intn(6)])...)
			continue
		}
		for from, to := range m.small {
			if to == c && g.Intn(2) == 0 {
				c = from
				break
			}
		}
		l = append(l, c)
		if g.Intn(4) == 0 {
			l = append(l, m.marks[g.Intn(len(m.marks))])
		}
	}
	return m.anyEqual(g, string(l))
}

// markClass returns 0 for what is no mark.
func markClass(c rune) int {
	switch {
	case c == 0x327 || c == 0x328:
		return 1
	case c == 0x323:
		return 2
	case c >= 0x300 && c <= 0x30C:
		return 3
	}
	return 0
}

// notEncoded returns strings that are not encoded, neither alone nor between encoded ones.
func notEncoded() []string {
	return []string{
		"\x00", "\t", "\n", "\x7F", // control characters
		"\x80", "\xA0", "\xC3", "\xCE", "\xE9", "\xEF", "\xFF", // no encodings
		"\xC3 ", "\xEF\xBC", "\xC1\xA1", "\xE0\x83\xA9", "\xED\xA0\x80", "\xF4\x90\x80\x80",
		"\uFFFD", "\uFEFF", "\U0010FFFF", "\U00010041",
		"\u00AD", "\u00BD", "\u00D7", "\u00AA", "\u00BA", "\u2019", "\u2013", "\u2028", "\u3000", "\u2074", // no letters, or no digits, of the repertoire
		"\u01C4", "\u0218", "\u0138", "\u1E9E", "\uFB00", "\u03A2", "\u0390", "\u0403", "\u040F", "\u0450", "\u0492", // no letters of it
		"\u0305", "\u0326", "\uFF00", "\uFF5F", "中",
	}
}
