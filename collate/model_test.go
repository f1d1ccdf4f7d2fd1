package collate_test

import (
	"math/rand"
	"slices"
	"strings"
	"unicode"

	"bookplate/collate"
	"bookplate/normal"
	rep "bookplate/repertoire"
)

// The model finds letters by their places in lists, and compares the lists of weights, not keys; it shares no code with the package. What is encoded is asked of layer 4, the decomposed form of layer 5.

type tailoring = []collate.Letter

const (
	latinSmall    = "abcdefghijklmnopqrstuvwxyz"
	greekSmall    = "αβγδεζηθικλμνξοπρςστυφχψω"
	cyrillicSmall = "абвгдежзийклмнопрстуфхцчшщъыьэюя"
	ukrainian     = "   ґ є  і" // each sorts behind the letter that is at its place in cyrillicSmall
	latinCapitals = "ABCDEFGHIJKLMNOPQRSTUVWXYZÆŒØĐÐÞĦŁŊŦ"
	toCapitals    = "abcdefghijklmnopqrstuvwxyzæœøđðþħłŋŧ"
)

func plainOf(c rune) string {
	switch c {
	case 'æ':
		return "ae"
	case 'œ':
		return "oe"
	case 'þ':
		return "th"
	case 'ŋ':
		return "ng"
	case 'ß':
		return "ss"
	}
	if i := slices.Index([]rune("øđðħıłŧ"), c); i >= 0 {
		return string("oddhilt"[i])
	}
	return string(c)
}

func smallOf(c rune) rune {
	if i := slices.Index([]rune(latinCapitals), c); i >= 0 {
		return []rune(toCapitals)[i]
	}
	if c == 0x3C2 {
		return 0x3C3
	}
	if unicode.In(c, unicode.Greek, unicode.Cyrillic) {
		return unicode.ToLower(c)
	}
	return c
}

func encoded(s string) bool {
	_, ok := rep.Decode(s)
	return ok
}

// weights are the lists of a string, primary weights with zeros.
type weights struct{ primary, secondary, tertiary []int }

func (w *weights) put(primary, secondary, tertiary int) {
	w.primary = append(w.primary, primary)
	w.secondary = append(w.secondary, secondary)
	w.tertiary = append(w.tertiary, tertiary)
}

func place(list string, c rune) int { return slices.Index([]rune(list), c) }

func modelLetter(small rune) int {
	if i := place(latinSmall, small); i >= 0 {
		return 30000 + 100*i
	}
	if i := place(greekSmall, small); i >= 0 {
		return 50000 + 100*i
	}
	if i := place(cyrillicSmall, small); i >= 0 {
		return 60000 + 200*i
	}
	return 60000 + 200*place(ukrainian, small) + 100
}

func (w *weights) putCharacter(c rune) {
	small := smallOf(c)
	tertiary := 1
	if small != c {
		tertiary = 2
	}
	switch {
	case c == ' ':
		w.put(100, 1, 1)
	case c >= '0' && c <= '9':
		w.put(20000+100*int(c-'0'), 1, 1)
	case unicode.Is(unicode.Mn, c):
		w.put(0, int(c)-0x300+10, 1)
	case !unicode.IsLetter(c):
		w.put(100*int(c), 1, 1)
	default:
		for _, x := range plainOf(small) {
			if x == small {
				w.put(modelLetter(x), 1, tertiary)
			} else {
				w.put(modelLetter(x), 2, tertiary)
			}
		}
	}
}

// modelLongest returns the number of the letter, from 1 on, with the longest Text at the beginning of small letters; 0 if there is none.
func modelLongest(t tailoring, small []rune) int {
	best := 0
	for i, x := range t {
		if strings.HasPrefix(string(small), x.Text) && (best == 0 || len(x.Text) > len(t[best-1].Text)) {
			best = i + 1
		}
	}
	return best
}

func modelWeights(t tailoring, s string) weights {
	var w weights
	l := []rune(normal.Decompose(s))
	for at := 0; at < len(l); {
		small := make([]rune, 0, 5)
		for _, c := range l[at:min(at+5, len(l))] {
			small = append(small, smallOf(c))
		}
		i := modelLongest(t, small)
		if i == 0 {
			w.putCharacter(l[at])
			at++
			continue
		}
		text := []rune(t[i-1].Text)
		tertiary := 1
		if !slices.Equal(l[at:at+len(text)], text) {
			tertiary = 2
		}
		w.put(modelLetter([]rune(t[i-1].After)[0])+i, 1, tertiary)
		at += len(text)
	}
	return w
}

func withoutZeros(l []int) []int {
	var out []int
	for _, n := range l {
		if n != 0 {
			out = append(out, n)
		}
	}
	return out
}

// searchLetters are the letters that are their own search forms.
const searchLetters = latinSmall + "αβγδεζηθικλμνξοπρστυφχψω" + "абвгдежзиклмнопрстуфхцчшщъыьэюя" + "ґєі"

func modelText(s string) bool {
	l := []rune(s)
	if !encoded(s) || len(l) < 1 || len(l) > 4 || normal.Decompose(s) != s || !unicode.IsLetter(l[0]) {
		return false
	}
	for _, c := range l {
		if smallOf(c) != c || c == 'ß' {
			return false
		}
	}
	return true
}

func modelValid(t tailoring) bool {
	for i, x := range t {
		if after := []rune(x.After); !modelText(x.Text) || len(after) != 1 || !strings.ContainsRune(searchLetters, after[0]) {
			return false
		}
		for _, earlier := range t[:i] {
			if earlier.Text == x.Text {
				return false
			}
		}
	}
	return len(t) <= 40
}

func modelPrimary(t tailoring, s string) []int {
	if !modelValid(t) || !encoded(s) {
		return nil
	}
	return withoutZeros(modelWeights(t, s).primary)
}

func modelKey(t tailoring, s string) []byte {
	if !modelValid(t) || !encoded(s) {
		return nil
	}
	w := modelWeights(t, s)
	var b []byte
	for _, n := range append(withoutZeros(w.primary), 0) {
		b = append(b, byte(n/65536), byte(n/256%256), byte(n%256))
	}
	for _, n := range append(w.secondary, 0) {
		b = append(b, byte(n))
	}
	for _, n := range append(w.tertiary, 0) {
		b = append(b, byte(n))
	}
	return append(b, normal.Decompose(s)...)
}

func modelCompare(t tailoring, a, b string) int {
	if !modelValid(t) || !encoded(a) || !encoded(b) {
		return 0
	}
	v, w := modelWeights(t, a), modelWeights(t, b)
	for _, l := range [][2][]int{{withoutZeros(v.primary), withoutZeros(w.primary)}, {v.secondary, w.secondary}, {v.tertiary, w.tertiary}} {
		if c := slices.Compare(l[0], l[1]); c != 0 {
			return c
		}
	}
	return strings.Compare(normal.Decompose(a), normal.Decompose(b))
}

// modelSort inserts one string after the other behind those that are not greater.
func modelSort(t tailoring, l []string) []string {
	if !modelValid(t) || slices.ContainsFunc(l, func(s string) bool { return !encoded(s) }) {
		return l
	}
	var out []string
	for _, s := range l {
		at := len(out)
		for at > 0 && modelCompare(t, out[at-1], s) > 0 {
			at--
		}
		out = slices.Insert(out, at, s)
	}
	return out
}

// letters makes a tailoring of Texts and the letters behind which they sort, in turn.
func letters(l ...string) tailoring {
	var t tailoring
	for i := 0; i < len(l); i += 2 {
		t = append(t, collate.Letter{Text: l[i], After: l[i+1]})
	}
	return t
}

// alphabets are small, so that Texts are often beginnings of others; they hold letters in small and decomposed forms, and other characters.
func alphabets() []string {
	return []string{"ab", "ch\u030C", "abc\u0301\u0323", "aoz\u0308\u030A", "æþo h", "жзи\u0306", "αβσ\u0301", "aαа", "łl1-", "ґгєеіи", latinSmall, "st\u0327\u0301"}
}

func anyRune(g *rand.Rand, l []rune) rune { return l[g.Intn(len(l))] }

// anyText returns a valid Text: characters that are not in their normal form are left out.
func anyText(g *rand.Rand, alphabet []rune, max int) string {
	for {
		l := make([]rune, 1+g.Intn(max))
		for i := range l {
			l[i] = anyRune(g, alphabet)
		}
		if modelText(string(l)) {
			return string(l)
		}
	}
}

// anyTailoring returns a valid tailoring of at most n letters, most of which sort behind letters of the alphabet.
func anyTailoring(g *rand.Rand, alphabet []rune, n int) tailoring {
	most := 1 + g.Intn(4)
	seen := map[string]bool{}
	var t tailoring
	for range g.Intn(n + 1) {
		after := anyRune(g, alphabet)
		if g.Intn(4) == 0 || !strings.ContainsRune(searchLetters, after) {
			after = anyRune(g, []rune(searchLetters))
		}
		if text := anyText(g, alphabet, most); !seen[text] {
			t = append(t, collate.Letter{Text: text, After: string(after)})
			seen[text] = true
		}
	}
	return t
}

// upper changes some small letters into capital ones.
func upper(g *rand.Rand, s string, oneIn int) string {
	return strings.Map(func(c rune) rune {
		if g.Intn(oneIn) == 0 {
			return capitalOf(c)
		}
		return c
	}, s)
}

// capitalOf returns the capital letter of a decomposed small one, and other characters as they are.
func capitalOf(c rune) rune {
	if i := slices.Index([]rune(toCapitals), c); i >= 0 {
		return []rune(latinCapitals)[i]
	}
	if c != 0x3C2 && unicode.In(c, unicode.Greek, unicode.Cyrillic) {
		return unicode.ToUpper(c)
	}
	return c
}

// anyCharacter returns a character of the repertoire, and prefers those with special rows.
func anyCharacter(g *rand.Rand) rune {
	switch g.Intn(6) {
	case 0:
		return anyRune(g, []rune("ßÆæÐðĐđÞþĦħıİŁłŊŋŒœØøŦŧſﬁΣσςЙйЁёІіЄєҐґЇéÉç"))
	case 1:
		return anyRune(g, characters)
	case 2:
		return anyRune(g, marks)
	case 3:
		return anyRune(g, []rune(" \u00A0-'!~¹²³019\uFF0D\uFF10"))
	}
	return anyRune(g, []rune(latinSmall+latinCapitals))
}

var characters = all()

var marks = slices.DeleteFunc(all(), func(c rune) bool { return !unicode.Is(unicode.Mn, c) })

func all() []rune {
	var l []rune
	for _, c := range rep.List() {
		l = append(l, rune(c))
	}
	return l
}

// anyString returns an encoded string of Texts, of the letters of an alphabet, and of other characters.
func anyString(g *rand.Rand, t tailoring, alphabet []rune, max int) string {
	s := ""
	for range g.Intn(max + 1) {
		switch k := g.Intn(8); {
		case k < 3 && len(t) > 0:
			s += upper(g, t[g.Intn(len(t))].Text, 3)
		case k == 3 && len(t) > 0:
			s += t[g.Intn(len(t))].After
		case k == 4:
			s += string(anyCharacter(g))
		default:
			s += upper(g, string(anyRune(g, alphabet)), 4)
		}
	}
	if g.Intn(4) == 0 {
		s = normal.Compose(s)
	}
	return s
}

// anyNear returns a string that differs from s in little or nothing.
func anyNear(g *rand.Rand, s string, alphabet []rune) string {
	l := []rune(s)
	at := g.Intn(len(l) + 1)
	switch g.Intn(7) {
	case 0, 1:
		return anyEqual(g, s)
	case 2:
		return upper(g, normal.Decompose(s), 3)
	case 3:
		return string(slices.Insert(l, at, anyRune(g, marks)))
	case 4:
		return string(slices.Insert(l, at, anyRune(g, alphabet)))
	case 5:
		return string(l[:at])
	}
	return s
}

// anyEqual returns a string with the same decomposed form: some characters are written in another way, and some marks of different classes change places.
func anyEqual(g *rand.Rand, s string) string {
	if g.Intn(2) == 0 {
		s = normal.Compose(s)
	}
	var l []rune
	for _, c := range s {
		switch other := normal.Decompose(string(c)); {
		case g.Intn(2) == 0:
			l = append(l, c)
		case c == ' ':
			l = append(l, 0xA0)
		case ' ' < c && c <= '~':
			l = append(l, c-0x21+0xFF01)
		default:
			l = append(l, []rune(other)...)
		}
	}
	for i := 1; i < len(l); i++ {
		if a, b := markClass(l[i-1]), markClass(l[i]); a > 0 && b > 0 && a != b && g.Intn(2) == 0 {
			l[i-1], l[i] = l[i], l[i-1]
		}
	}
	return string(l)
}

// markClass returns 0 for what is no mark.
func markClass(c rune) int {
	switch {
	case !unicode.Is(unicode.Mn, c):
		return 0
	case c == 0x327 || c == 0x328:
		return 1
	case c == 0x323:
		return 2
	}
	return 3
}

// faultyTexts can't be the Text of a letter.
func faultyTexts() []string {
	return []string{
		"", "abcde", "a\u0301\u0301\u0301\u0301", "жжжжж", "æ----", // no characters, or too many
		"A", "aB", "Æ", "aŁ", "Ж", "σΣ", "ς", "aς", "І", "Ґа", "ß", "aß", // not folded
		"é", "aé", "ё", "ÿ", "ﬁ", "aﬁ", "ſ", "a²", "\uFF41", "a\uFF0D", "a\u00A0", "a\u0301\u0323", "a\u0301\u0327", "a\u0323\u0327", "\u1E00", // not decomposed
		"1", "1a", " ", " a", "-a", "\u0301", "\u0301a", "'", "²", // no letter at the beginning
	}
}

// faultyAfters can't be the After of a letter.
func faultyAfters() []string {
	return []string{
		"", "ab", "aa", "a\u0301", "a ", " a", "жи", "abcdefgh",
		"A", "Z", "Ж", "Σ", "І", "Є", "Ґ", "Æ", "æ", "œ", "ø", "ð", "đ", "þ", "ħ", "ı", "ł", "ŋ", "ŧ", "ß", "ς", "й", "ё", "ї", "ў", "é", "ά", "ﬁ", "ſ", "\uFF41",
		"1", "0", "²", " ", "\u00A0", "-", "'", "\u0301", "\u0323",
	}
}

// anyFaulty returns the tailoring with one fault, or the same.
func anyFaulty(g *rand.Rand, t tailoring) tailoring {
	t = append(tailoring{}, t...)
	if len(t) == 0 {
		return t
	}
	i := g.Intn(len(t))
	wrong := notEncoded()
	switch bad := wrong[g.Intn(len(wrong))]; g.Intn(9) {
	case 0:
		t[i].Text = faultyTexts()[g.Intn(len(faultyTexts()))]
	case 1:
		t[i].After = faultyAfters()[g.Intn(len(faultyAfters()))]
	case 2:
		t[i].Text += bad
	case 3:
		t[i].After += bad
	case 4:
		t[i].After = bad
	case 5:
		t = append(t, collate.Letter{Text: t[i].Text, After: "q"})
	case 6:
		for len(t) < 41 {
			t = append(t, collate.Letter{Text: "q" + string(latinSmall[len(t)%26]) + string(latinSmall[len(t)/26]), After: "q"})
		}
	}
	return t
}

// notEncoded returns strings that are not encoded, neither alone nor between encoded ones.
func notEncoded() []string {
	return []string{
		"\x00", "\t", "\n", "\x7F", // control characters
		"\x80", "\xA0", "\xC3", "\xCE", "\xE9", "\xEF", "\xFF", // no encodings
		"\xC3 ", "\xEF\xBC", "\xC1\xA1", "\xE0\x83\xA9", "\xED\xA0\x80", "\xF4\x90\x80\x80",
		"\uFFFD", "\uFEFF", "\U0010FFFF", "\U00010041",
		"\u00AD", "\u00BD", "\u00D7", "\u00AA", "\u2019", "\u2013", "\u2028", "\u3000", "\u03A2", "\u0450", "\u0138", "\u0305", "\uFF00", "\uFF5F", "中",
	}
}
