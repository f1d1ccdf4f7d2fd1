package normal_test

import (
	"math/rand"
	"slices"
	"strconv"
	"strings"

	rep "bookplate/repertoire"
)

// The model works on strings: it replaces characters, swaps marks that are next to each other, and looks at all marks that were left. It shares no code with the package; what is encoded is asked of layer 4.

// byBase has the composed letters by their bases, as Unicode has them, each ahead of the number of its mark.
const byBase = `
A: À0300 Á0301 Â0302 Ã0303 Ä0308 Å030A Ā0304 Ă0306 Ą0328
C: Ç0327 Ć0301 Ĉ0302 Ċ0307 Č030C
D: Ď030C
E: È0300 É0301 Ê0302 Ë0308 Ē0304 Ĕ0306 Ė0307 Ę0328 Ě030C
G: Ĝ0302 Ğ0306 Ġ0307 Ģ0327
H: Ĥ0302
I: Ì0300 Í0301 Î0302 Ï0308 Ĩ0303 Ī0304 Ĭ0306 Į0328 İ0307
J: Ĵ0302
K: Ķ0327
L: Ĺ0301 Ļ0327 Ľ030C
N: Ñ0303 Ń0301 Ņ0327 Ň030C
O: Ò0300 Ó0301 Ô0302 Õ0303 Ö0308 Ō0304 Ŏ0306 Ő030B
R: Ŕ0301 Ŗ0327 Ř030C
S: Ś0301 Ŝ0302 Ş0327 Š030C
T: Ţ0327 Ť030C
U: Ù0300 Ú0301 Û0302 Ü0308 Ũ0303 Ū0304 Ŭ0306 Ů030A Ű030B Ų0328
W: Ŵ0302
Y: Ý0301 Ŷ0302 Ÿ0308
Z: Ź0301 Ż0307 Ž030C
a: à0300 á0301 â0302 ã0303 ä0308 å030A ā0304 ă0306 ą0328
c: ç0327 ć0301 ĉ0302 ċ0307 č030C
d: ď030C
e: è0300 é0301 ê0302 ë0308 ē0304 ĕ0306 ė0307 ę0328 ě030C
g: ĝ0302 ğ0306 ġ0307 ģ0327
h: ĥ0302
i: ì0300 í0301 î0302 ï0308 ĩ0303 ī0304 ĭ0306 į0328
j: ĵ0302
k: ķ0327
l: ĺ0301 ļ0327 ľ030C
n: ñ0303 ń0301 ņ0327 ň030C
o: ò0300 ó0301 ô0302 õ0303 ö0308 ō0304 ŏ0306 ő030B
r: ŕ0301 ŗ0327 ř030C
s: ś0301 ŝ0302 ş0327 š030C
t: ţ0327 ť030C
u: ù0300 ú0301 û0302 ü0308 ũ0303 ū0304 ŭ0306 ů030A ű030B ų0328
w: ŵ0302
y: ý0301 ÿ0308 ŷ0302
z: ź0301 ż0307 ž030C
Α: Ά0301
Ε: Έ0301
Η: Ή0301
Ι: Ί0301 Ϊ0308
Ο: Ό0301
Υ: Ύ0301 Ϋ0308
Ω: Ώ0301
α: ά0301
ε: έ0301
η: ή0301
ι: ί0301 ϊ0308
ο: ό0301
υ: ϋ0308 ύ0301
ω: ώ0301
І: Ї0308
Е: Ё0308
И: Й0306
У: Ў0306
е: ё0308
и: й0306
у: ў0306
і: ї0308`

type model struct {
	parts   map[rune]string // the decompositions of single characters
	letters map[string]rune // the composed letters by the base and the mark
	bases   []rune          // the bases and the composed letters
	marks   []rune
	list    []int
}

func newModel() *model {
	m := &model{parts: map[rune]string{}, letters: map[string]rune{}, list: rep.List()}
	m.putComposed()
	for c, s := range map[rune]string{'\u00A0': " ", '¹': "1", '²': "2", '³': "3", 'ſ': "s", 'ﬁ': "fi", 'ﬂ': "fl"} {
		m.parts[c] = s
	}
	for c := rune(0x21); c <= 0x7E; c++ {
		m.parts[c-0x21+0xFF01] = string(c)
	}
	for _, c := range m.list {
		if markClass(rune(c)) > 0 {
			m.marks = append(m.marks, rune(c))
		}
	}
	return m
}

func (m *model) putComposed() {
	for _, line := range strings.Split(strings.TrimSpace(byBase), "\n") {
		base, letters, _ := strings.Cut(strings.TrimSpace(line), ":")
		m.bases = append(m.bases, []rune(base)...)
		for _, word := range strings.Fields(letters) {
			letter := []rune(word)[0]
			mark, err := strconv.ParseInt(strings.TrimPrefix(word, string(letter)), 16, 32)
			if err != nil {
				panic(err)
			}
			m.parts[letter] = base + string(rune(mark))
			m.letters[m.parts[letter]] = letter
			m.bases = append(m.bases, letter)
		}
	}
}

// markClass returns 0 for what is no mark.
func markClass(c rune) int {
	switch {
	case c == 0x327 || c == 0x328:
		return 1
	case c == 0x323:
		return 2
	case c >= 0x300 && c <= 0x30C:
		return 3
	}
	return 0
}

func encoded(s string) bool {
	_, ok := rep.Decode(s)
	return ok
}

func (m *model) decompose(s string) string {
	if !encoded(s) {
		return ""
	}
	var l []rune
	for _, c := range s {
		if parts, ok := m.parts[c]; ok {
			l = append(l, []rune(parts)...)
		} else {
			l = append(l, c)
		}
	}
	for again := true; again; {
		again = false
		for i := 1; i < len(l); i++ {
			if a, b := markClass(l[i-1]), markClass(l[i]); b > 0 && a > b {
				l[i-1], l[i] = l[i], l[i-1]
				again = true
			}
		}
	}
	return string(l)
}

func (m *model) compose(s string) string {
	out := ""
	l := []rune(m.decompose(s))
	for len(l) > 0 {
		character := l[0]
		end := 1
		for end < len(l) && markClass(l[end]) > 0 {
			end++
		}
		left := ""
		for _, mark := range l[1:end] {
			sameClass := func(c rune) bool { return markClass(c) == markClass(mark) }
			letter, ok := m.letters[string(character)+string(mark)]
			if ok && !strings.ContainsFunc(left, sameClass) {
				character = letter
			} else {
				left += string(mark)
			}
		}
		out += string(character) + left
		l = l[end:]
	}
	return out
}

func (m *model) strip(s string) string {
	return strings.Map(func(c rune) rune {
		if markClass(c) > 0 {
			return -1
		}
		return c
	}, m.decompose(s))
}

func (m *model) countMarks(s string) int {
	return rep.Count(m.decompose(s)) - rep.Count(m.strip(s))
}

// anyCharacter prefers bases, composed letters and marks, as the forms of the others are short work.
func (m *model) anyCharacter(g *rand.Rand) rune {
	switch g.Intn(8) {
	case 0, 1:
		return m.bases[g.Intn(len(m.bases))]
	case 2:
		return rune(m.list[g.Intn(len(m.list))])
	case 3:
		return []rune(" \u00A0¹²³ſﬁﬂ!\uFF01")[g.Intn(10)]
	}
	return m.marks[g.Intn(len(m.marks))]
}

// anyEncoded returns an encoded string, often with the same few marks again and again.
func (m *model) anyEncoded(g *rand.Rand, max int) string {
	l := make([]rune, g.Intn(max+1))
	few := []rune{m.anyCharacter(g), m.anyCharacter(g), m.anyCharacter(g)}
	some := g.Intn(3)
	for i := range l {
		l[i] = m.anyCharacter(g)
		if g.Intn(3) < some {
			l[i] = few[g.Intn(len(few))]
		}
	}
	return string(l)
}

// anyString returns a string that is encoded, or would be but for one place.
func (m *model) anyString(g *rand.Rand, max int) string {
	s := m.anyEncoded(g, max)
	at := g.Intn(len(s) + 1)
	wrong := notEncoded()
	switch g.Intn(8) {
	case 0:
		return s[:at]
	case 1:
		return s[at:]
	case 2:
		return s[:at] + wrong[g.Intn(len(wrong))] + s[at:]
	}
	return s
}

// anyEqual returns an encoded string with the same decomposed form.
func (m *model) anyEqual(g *rand.Rand, s string) string {
	var l []rune
	for _, c := range s {
		if parts, ok := m.parts[c]; ok && g.Intn(2) == 0 {
			l = append(l, []rune(parts)...)
		} else {
			l = append(l, c)
		}
	}
	for range len(l) {
		i := g.Intn(len(l))
		if i == 0 {
			continue
		}
		if a, b := markClass(l[i-1]), markClass(l[i]); a > 0 && b > 0 && a != b {
			l[i-1], l[i] = l[i], l[i-1]
		}
	}
	for i := 0; i+1 < len(l); i++ {
		if letter, ok := m.letters[string(l[i:i+2])]; ok && g.Intn(2) == 0 {
			l = slices.Replace(l, i, i+2, letter)
		}
	}
	return string(l)
}

// notEncoded returns strings that are not encoded, neither alone nor between encoded ones.
func notEncoded() []string {
	return []string{
		"\x00", "\t", "\n", "\x1F", "\x7F",
		"\x80", "\xA0", "\xC0", "\xC3", "\xCC", "\xEF", "\xFE", "\xFF", "\xE9",
		"\xC3 ", "\xEF\xBC", "\xEF\xAC ", "\xC1\xA1", "\xE0\x83\xA9", "\xED\xA0\x80", "\xF4\x90\x80\x80",
		"\uFFFD", "\uFEFF", "\U0010FFFF", "\U00010041",
		"\u0305", "\u0309", "\u0322", "\u0324", "\u0326", "\u0329", // marks of others
		"\u00B4", "\u00BA", "\u00BC", "\u0132", "\u0218", "\u0390", "\u0403", "\u0450", "\u1E09", "\u1E9E", // composed ones of others
		"\uFB00", "\uFB03", "\uFF00", "\uFF5F", "\u2075", "\u3000", "中",
	}
}
