package translit_test

import (
	"math/rand"
	"strings"
	"unicode/utf8"

	rep "bookplate/repertoire"
	"bookplate/translit"
)

// The model keeps the rules of a table in a map, and looks up beginnings with fewer and fewer characters; it shares no code with the package. What is encoded is asked of layer 4.

type table = []translit.Rule

// The letters of the two tables, at the same places.
const (
	cyrillicSmall = "абвгдеёжзийклмнопрстуфхцчшщъыьэюя"
	latinSmall    = "abvgdeëžzijklmnoprstufhcčšŝ\"y'èûâ"
	greekSmall    = "αβγδεζηικλμνξοπρσςτυω"
	latinForGreek = "abgdezēiklmnxoprsstyō"
)

func encoded(s string) bool {
	_, ok := rep.Decode(s)
	return ok
}

func modelSide(s string) bool {
	l, ok := rep.Decode(s)
	return ok && len(l) >= 1 && len(l) <= 6
}

func modelValid(t table) bool {
	for i, r := range t {
		if !modelSide(r.From) || !modelSide(r.To) {
			return false
		}
		for _, earlier := range t[:i] {
			if earlier.From == r.From {
				return false
			}
		}
	}
	return len(t) >= 1 && len(t) <= 80
}

// opposite returns the table with From and To exchanged, without the rules that do not count.
func opposite(t table) table {
	var back table
	for i, r := range t {
		first := true
		for _, earlier := range t[:i] {
			first = first && earlier.To != r.To
		}
		if first {
			back = append(back, translit.Rule{From: r.To, To: r.From})
		}
	}
	return back
}

// longest returns the longest From with which characters begin, and its To.
func longest(to map[string]string, l []rune) (n int, s string, ok bool) {
	for n := min(6, len(l)); n > 0; n-- {
		if s, ok := to[string(l[:n])]; ok {
			return n, s, true
		}
	}
	return 1, string(l[0]), false
}

func modelWrite(t table, s string) (string, bool) {
	to := map[string]string{}
	for _, r := range t {
		to[r.From] = r.To
	}
	out, covered := "", true
	for l := []rune(s); len(l) > 0; {
		n, part, ok := longest(to, l)
		out += part
		covered = covered && ok
		l = l[n:]
	}
	return out, covered
}

func modelTo(t table, s string) string {
	if !modelValid(t) || !encoded(s) {
		return ""
	}
	out, _ := modelWrite(t, s)
	return out
}

func modelBack(t table, s string) string {
	if !modelValid(t) || !encoded(s) {
		return ""
	}
	out, _ := modelWrite(opposite(t), s)
	return out
}

func modelCovers(t table, s string) bool {
	if !modelValid(t) || !encoded(s) {
		return false
	}
	_, covered := modelWrite(t, s)
	return covered
}

func modelReversible(t table) bool {
	for i, r := range t {
		for _, other := range t[:i] {
			if n := min(len(r.To), len(other.To)); r.To[:n] == other.To[:n] {
				return false
			}
		}
	}
	return modelValid(t)
}

func modelCyrillic() table {
	t := pairs(cyrillicSmall, latinSmall)
	for _, r := range pairs(cyrillicSmall, latinSmall) {
		if from, to := strings.ToUpper(r.From), strings.ToUpper(r.To); to != r.To {
			t = append(t, translit.Rule{From: from, To: to})
		}
	}
	return t
}

func modelGreek() table {
	t := pairs(greekSmall, latinForGreek)
	t = append(t, pairs2("θ", "th", "φ", "ph", "χ", "ch", "ψ", "ps", "ου", "ou", "γγ", "ng", "γκ", "nk")...)
	return t
}

func pairs(from, to string) table {
	var t table
	l := []rune(to)
	for i, c := range []rune(from) {
		t = append(t, translit.Rule{From: string(c), To: string(l[i])})
	}
	return t
}

func pairs2(l ...string) table {
	var t table
	for i := 0; i < len(l); i += 2 {
		t = append(t, translit.Rule{From: l[i], To: l[i+1]})
	}
	return t
}

// alphabets are small, so that the sides of rules are often beginnings of others.
func alphabets() []string {
	return []string{"ab", "abc", "aéж", "e\u0301\u0323", "жзд", "fiﬁ", "a \u00A0-", "xX\uFF38", "αλγκ", "abcdefghij", "aÁá\uFF21bcж\u0416 "}
}

func anyAlphabet(g *rand.Rand) []rune {
	var l []rune
	for _, c := range alphabets()[g.Intn(len(alphabets()))] {
		if rep.Has(int(c)) {
			l = append(l, c)
		}
	}
	return l
}

func anyWord(g *rand.Rand, alphabet []rune, max int) string {
	l := make([]rune, 1+g.Intn(max))
	for i := range l {
		l[i] = alphabet[g.Intn(len(alphabet))]
	}
	return string(l)
}

// anyTable returns a valid table of at most n rules.
func anyTable(g *rand.Rand, alphabet []rune, n int) table {
	most := []int{1, 2, 3, 6}[g.Intn(4)]
	seen := map[string]bool{}
	var t table
	for range 1 + g.Intn(n) {
		r := translit.Rule{From: anyWord(g, alphabet, most), To: anyWord(g, alphabet, 1+g.Intn(6))}
		if g.Intn(4) == 0 {
			r.To = anyWord(g, []rune("xyж"), 3)
		}
		if !seen[r.From] {
			t = append(t, r)
		}
		seen[r.From] = true
	}
	return t
}

// anyReversible returns a reversible table: the sides To are the ends of a tree, of which some are then grown.
func anyReversible(g *rand.Rand, alphabet []rune, n int) table {
	t := anyTable(g, alphabet, n)
	ends := []string{""}
	for len(ends) < len(t)+g.Intn(3) {
		i := g.Intn(len(ends))
		if utf8.RuneCountInString(ends[i]) == 6 {
			continue
		}
		for _, c := range alphabet[1:] {
			ends = append(ends, ends[i]+string(c))
		}
		ends[i] += string(alphabet[0])
	}
	if ends[0] == "" {
		ends[0] = anyWord(g, alphabet, 6)
	}
	g.Shuffle(len(ends), func(i, j int) { ends[i], ends[j] = ends[j], ends[i] })
	t = t[:min(len(t), len(ends))]
	for i := range t {
		t[i].To = ends[i]
	}
	return t
}

// anyCovered returns a string of sides of rules, which the table covers unless two together begin with the From of another rule.
func anyCovered(g *rand.Rand, t table, max int) string {
	s := ""
	for range g.Intn(max + 1) {
		s += t[g.Intn(len(t))].From
	}
	return s
}

// anyString returns a string that is made of sides of rules and characters.
func anyString(g *rand.Rand, t table, alphabet []rune, max int) string {
	s := ""
	for range g.Intn(max + 1) {
		switch r := t[g.Intn(len(t))]; g.Intn(6) {
		case 0, 1:
			s += r.From
		case 2:
			s += r.To
		case 3:
			s += string([]rune("xyж1 \u0301")[g.Intn(6)])
		default:
			s += anyWord(g, alphabet, 3)
		}
	}
	return s
}

// anyFaulty returns the table with one fault, or the same.
func anyFaulty(g *rand.Rand, t table) table {
	t = append(table(nil), t...)
	i := g.Intn(len(t))
	wrong := notEncoded()
	bad := wrong[g.Intn(len(wrong))]
	switch g.Intn(12) {
	case 0:
		t[i].From = ""
	case 1:
		t[i].To = ""
	case 2:
		t[i].From = bad
	case 3:
		t[i].To = bad
	case 4:
		t[i].From += bad
	case 5:
		t[i].To += bad
	case 6:
		t[i].From = strings.Repeat("é", 7)
	case 7:
		t[i].To = strings.Repeat("é", 7)
	case 8:
		t = append(t, translit.Rule{From: t[i].From, To: "q"})
	case 9:
		t = nil
	}
	return t
}

// notEncoded returns strings that are not encoded, neither alone nor between encoded ones.
func notEncoded() []string {
	return []string{
		"\x00", "\t", "\n", "\x7F", // control characters
		"\x80", "\xA0", "\xC3", "\xCE", "\xE9", "\xEF", "\xFF", // no encodings
		"\xC3 ", "\xEF\xBC", "\xC1\xA1", "\xE0\x83\xA9", "\xED\xA0\x80", "\xF4\x90\x80\x80",
		"\uFFFD", "\uFEFF", "\U0010FFFF", "\U00010041",
		"\u00AD", "\u00BD", "\u00D7", "\u2019", "\u2028", "\u3000", "\u03A2", "\u0450", "\u0305", "\uFF00", "\uFF5F", "中",
	}
}
