package repertoire_test

import (
	"math/rand"
	"slices"
	"strings"

	rep "bookplate/repertoire"
)

// The model takes the characters from the rows of the chapter's table, and finds encodings in a map of all of them; it shares no code with the package.

const (
	least    = -1 << 63
	greatest = 1<<63 - 1
)

const (
	latinLetters    = "ÀÈÌÒÙàèìòùÁÉÍÓÚÝáéíóúýĆćĹĺŃńŔŕŚśŹźÂÊÎÔÛâêîôûĈĉĜĝĤĥĴĵŜŝŴŵŶŷÃÑÕãñõĨĩŨũĀāĒēĪīŌōŪūĂăĔĕĞğĬĭŎŏŬŭĊċĖėĠġİŻżÄËÏÖÜäëïöüÿŸÅåŮůŐőŰűČčĎďĚěŇňŘřŠšŤťŽžĽľÇçĢģĶķĻļŅņŖŗŞşŢţĄąĘęĮįŲųÆæØøÐðÞþßĐđĦħıŁłŒœŊŋŦŧ"
	greekLetters    = "ΆΈΉΊΌΎΏάέήίόύώΪΫϊϋ"
	cyrillicLetters = "ЁёЇїЄєҐґЎўІі"
)

type class struct{ script, kind int }

type model struct {
	classes map[int]class
	coded   map[string]int // the characters by their encodings
	codes   map[int]string
	list    []int
}

func newModel() *model {
	m := &model{classes: map[int]class{}, coded: map[string]int{}, codes: map[int]string{}}
	m.put(class{rep.None, rep.Space}, 0x20, 0xA0)
	m.put(class{rep.None, rep.Digit}, append(from('0', '9'), 0xB2, 0xB3, 0xB9)...)
	m.put(class{rep.Latin, rep.Letter}, from('A', 'Z')...)
	m.put(class{rep.Latin, rep.Letter}, from('a', 'z')...)
	m.put(class{rep.Latin, rep.Letter}, 0x17F, 0xFB01, 0xFB02)
	m.put(class{rep.Latin, rep.Letter}, letters(latinLetters)...)
	m.put(class{rep.None, rep.Mark}, 0x300, 0x301, 0x302, 0x303, 0x304, 0x306, 0x307, 0x308, 0x30A, 0x30B, 0x30C, 0x323, 0x327, 0x328)
	m.put(class{rep.Greek, rep.Letter}, from(0x391, 0x3A1)...)
	m.put(class{rep.Greek, rep.Letter}, from(0x3A3, 0x3A9)...)
	m.put(class{rep.Greek, rep.Letter}, from(0x3B1, 0x3C9)...)
	m.put(class{rep.Greek, rep.Letter}, letters(greekLetters)...)
	m.put(class{rep.Cyrillic, rep.Letter}, from(0x410, 0x44F)...)
	m.put(class{rep.Cyrillic, rep.Letter}, letters(cyrillicLetters)...)
	for _, c := range from(0x21, 0x7E) {
		if m.classes[c].kind == 0 {
			m.put(class{rep.None, rep.Punct}, c)
		}
	}
	for _, c := range from(0xFF01, 0xFF5E) {
		m.put(m.classes[c-0xFEE0], c)
	}
	slices.Sort(m.list)
	return m
}

func (m *model) put(k class, characters ...int) {
	for _, c := range characters {
		m.classes[c] = k
		m.coded[encoding(c)] = c
		m.codes[c] = encoding(c)
		m.list = append(m.list, c)
	}
}

func from(first, last int) []int {
	var l []int
	for c := first; c <= last; c++ {
		l = append(l, c)
	}
	return l
}

func letters(s string) []int {
	var l []int
	for _, c := range []rune(s) {
		l = append(l, int(c))
	}
	return l
}

// encoding returns the UTF-8 encoding of a character below U+10000, in its shortest form.
func encoding(c int) string {
	switch {
	case c < 0x80:
		return string([]byte{byte(c)})
	case c < 0x800:
		return string([]byte{byte(0xC0 + c/64), byte(0x80 + c%64)})
	}
	return string([]byte{byte(0xE0 + c/4096), byte(0x80 + c/64%64), byte(0x80 + c%64)})
}

func (m *model) decode(s string) ([]int, bool) {
	var l []int
	for len(s) > 0 {
		size := m.size(s)
		if size == 0 {
			return nil, false
		}
		l = append(l, m.coded[s[:size]])
		s = s[size:]
	}
	return l, true
}

// size returns the length of the encoding at the beginning of a string, 0 if there is none.
func (m *model) size(s string) int {
	for size := 1; size <= 3 && size <= len(s); size++ {
		if _, ok := m.coded[s[:size]]; ok {
			return size
		}
	}
	return 0
}

func (m *model) encode(l []int) (string, bool) {
	s := ""
	for _, c := range l {
		if m.classes[c].kind == 0 {
			return "", false
		}
		s += m.codes[c]
	}
	return s, true
}

func (m *model) valid(s string) bool {
	_, ok := m.decode(s)
	return ok && len(s) >= 1 && len(s) <= 400 && !strings.HasPrefix(s, " ") && !strings.HasSuffix(s, " ")
}

func (m *model) count(s string) int {
	l, _ := m.decode(s)
	return len(l)
}

func (m *model) cut(s string, n int) string {
	l, _ := m.decode(s)
	s, _ = m.encode(l[:max(0, min(n, len(l)))])
	return s
}

func (m *model) script(s string) int {
	l, _ := m.decode(s)
	found := map[int]bool{}
	for _, c := range l {
		if k := m.classes[c]; k.kind == rep.Letter {
			found[k.script] = true
		}
	}
	if len(found) > 1 {
		return rep.Mixed
	}
	for script := range found {
		return script
	}
	return rep.None
}

// anyCharacter prefers small numbers, so that each script and each kind comes often.
func (m *model) anyCharacter(g *rand.Rand) int {
	switch g.Intn(6) {
	case 0:
		return ' '
	case 1:
		return 0x21 + g.Intn(0x5E)
	case 2:
		return 0xFF01 + g.Intn(0x5E)
	}
	return m.list[g.Intn(len(m.list))]
}

func (m *model) anyList(g *rand.Rand, max int) []int {
	l := make([]int, g.Intn(max+1))
	few := 1 + g.Intn(4)
	for i := range l {
		l[i] = m.anyCharacter(g)
		if i >= few && g.Intn(4) > 0 {
			l[i] = l[i-few] // so that many strings have letters of one script alone
		}
	}
	return l
}

// anyEncoded returns an encoded string.
func (m *model) anyEncoded(g *rand.Rand, max int) string {
	s, _ := m.encode(m.anyList(g, max))
	return s
}

// anyString returns a string that is often encoded but for one place.
func (m *model) anyString(g *rand.Rand, max int) string {
	s := m.anyEncoded(g, max)
	if len(s) == 0 || g.Intn(3) == 0 {
		return s
	}
	at := g.Intn(len(s) + 1)
	wrong := notEncoded()
	switch g.Intn(4) {
	case 0:
		return s[:at]
	case 1:
		return s[at:]
	case 2:
		return s[:at] + wrong[g.Intn(len(wrong))] + s[at:]
	}
	b := []byte(s)
	b[g.Intn(len(b))] = byte(g.Intn(256))
	return string(b)
}

// notEncoded returns strings that are not encoded, neither alone nor between encoded ones.
func notEncoded() []string {
	return []string{
		"\x00", "\t", "\n", "\r", "\x1F", "\x7F", // control characters
		"\x80", "\x9F", "\xA0", "\xBF", "\xC0", "\xC1", "\xC3", "\xCE", "\xD0", "\xE2", "\xEF", "\xF0", "\xF5", "\xFE", "\xFF", // no beginnings, or no ends
		"\xA0 ", "\xB2", "\xE9", // as in ISO 8859-1
		"\xC3 ", "\xC3\xC3\xA9", "\xEF\xBC", "\xEF\xBC ", "\xEF\xBCa", "\xEF\xAC", "\xCC", "\xD2", // cut off
		"\xC0\xA0", "\xC1\xA1", "\xE0\x81\xA1", "\xE0\x83\xA9", "\xF0\x80\x83\xA9", "\xF0\x8F\xBC\xA1", // not in the shortest form
		"\xED\xA0\x80", "\xED\xBF\xBF", "\xED\xA0\xBD\xED\xB8\x80", // surrogates
		"\xF4\x90\x80\x80", "\xF7\xBF\xBF\xBF", "\xF8\x88\x80\x80\x80", // behind U+10FFFF
		"\uFFFD", "\uFEFF", "\uFFFE", "\uFFFF", "\U0010FFFF", "\U0001F600", "\U00010041",
		"\u0080", "\u009F", "\u00A1", "\u00AA", "\u00AD", "\u00B1", "\u00B4", "\u00B8", "\u00BA", "\u00BF", "×", "÷",
		"\u0132", "\u0133", "\u0138", "\u013F", "\u0140", "\u0149", "\u0180", "\u01C4", "\u0218", "\u021B", "\u02BC", "\u02FF", // letters of other languages
		"\u0305", "\u0309", "\u030D", "\u0322", "\u0324", "\u0326", "\u0329", "\u0342", "\u0345",
		"\u037E", "\u0385", "\u0387", "\u038B", "\u038D", "\u0390", "\u03A2", "\u03B0", "\u03CF", "\u03D1", "\u1F00",
		"\u0400", "\u0402", "\u0403", "\u0405", "\u0408", "\u040D", "\u040F", "\u0450", "\u0452", "\u0453", "\u0455", "\u0458", "\u045D", "\u045F", "\u048F", "\u0492",
		"\u1E9E", "\u2002", "\u2019", "\u2028", "\u2074", "\u3000", "\uFB00", "\uFB03", "\uFF00", "\uFF5F", "中", "א",
	}
}
