package token_test

import (
	"math/rand"
	"slices"
	"sort"
	"strings"
	"unicode"

	"bookplate/api"
	rep "bookplate/repertoire"
)

// The model writes strings from words, so that these are known beforehand; it folds nothing, and looks at lists of words one word at a time. The characters are those of layer 4.

const (
	least    = -1 << 63
	greatest = 1<<63 - 1
)

// characters are those of the repertoire.
var characters = rep.List()

// marks are those of the repertoire.
var marks = []rune("\u0300\u0301\u0302\u0303\u0304\u0306\u0307\u0308\u030A\u030B\u030C\u0323\u0327\u0328")

// letters are the characters of words.
var letters = []rune("abcdefghijklmnopqrstuvwxyz0123456789" + "αβγδεζηθικλμνξοπρστυφχψω" + "абвгдежзиклмнопрстуфхцчшщъыьэюяієґ")

// writings are further ways to write some characters of words, apart from capital letters, marks and fullwidth characters.
var writings = map[string]string{
	"a": "áÁàÀâäÅåąĀ", "c": "çČć", "d": "ðÐđĐď", "e": "éÉèêëęĚ", "h": "ħĦĥ", "i": "ıİíÍïĮ", "l": "łŁľ", "n": "ñŇ", "o": "øØóÓöŐ", "s": "ſšŞ", "t": "ŧŦť", "u": "üÚů", "y": "ýŸ", "z": "žŻ",
	"ae": "æÆ", "fi": "ﬁ", "fl": "ﬂ", "ng": "ŋŊ", "oe": "œŒ", "ss": "ß", "th": "þÞ",
	"1": "¹", "2": "²", "3": "³",
	"α": "άΆ", "ε": "έΈ", "ι": "ίϊΪ", "σ": "ς", "ω": "ώΏ", "и": "йЙ", "е": "ёЁ", "і": "їЇ", "у": "ўЎ",
}

// separators are what may stand between words.
var separators = []rune(" \u00A0!\"#$%&'()*+,-./:;<=>?@[\\]^_`{|}~\uFF01\uFF07\uFF0D\uFF0F\uFF1A\uFF20\uFF3F\uFF5E")

func anyOf[T any](g *rand.Rand, l []T) T {
	return l[g.Intn(len(l))]
}

// anyWord returns a word; many are short, so that they come again.
func anyWord(g *rand.Rand) string {
	if g.Intn(2) == 0 {
		return anyOf(g, []string{"a", "b", "ab", "ae", "the", "stra", "fluss", "1", "ж", "oe", "thing"})
	}
	l := make([]rune, 1+g.Intn(6))
	for i := range l {
		l[i] = anyOf(g, letters)
	}
	return string(l)
}

func anyWords(g *rand.Rand, max int) []string {
	var l []string
	for range g.Intn(max + 1) {
		l = append(l, anyWord(g))
	}
	return l
}

// write returns one of the ways to write a word.
func write(g *rand.Rand, word string) string {
	s := ""
	for l := []rune(word); len(l) > 0; {
		n := min(1+g.Intn(2), len(l))
		part := string(l[:n])
		if other := []rune(writings[part]); len(other) > 0 && g.Intn(2) == 0 {
			s, l = s+string(anyOf(g, other))+writeMarks(g), l[n:]
			continue
		}
		s, l = s+string(writeLetter(g, l[0]))+writeMarks(g), l[1:]
	}
	return s
}

func writeLetter(g *rand.Rand, c rune) rune {
	if g.Intn(3) == 0 {
		c = unicode.ToUpper(c)
	}
	if c <= '~' && g.Intn(6) == 0 {
		c += 0xFEE0
	}
	return c
}

func writeMarks(g *rand.Rand) string {
	s := ""
	for g.Intn(6) == 0 {
		s += string(anyOf(g, marks))
	}
	return s
}

// writeGap returns what may stand ahead of words, between them, and behind them.
func writeGap(g *rand.Rand) string {
	s := ""
	for range g.Intn(4) {
		s += string(anyOf(g, separators)) + writeMarks(g)
	}
	return s
}

// writeAll returns a string with some words.
func writeAll(g *rand.Rand, words []string) string {
	s := writeGap(g)
	for i, word := range words {
		if i > 0 {
			s += string(anyOf(g, separators)) + writeGap(g)
		}
		s += write(g, word)
	}
	return s + writeGap(g)
}

// anyEncoded returns an encoded string of any characters, often with separators.
func anyEncoded(g *rand.Rand, max int) string {
	l := make([]rune, g.Intn(max+1))
	for i := range l {
		switch g.Intn(4) {
		case 0:
			l[i] = anyOf(g, separators)
		case 1:
			l[i] = anyOf(g, marks)
		default:
			l[i] = rune(anyOf(g, characters))
		}
	}
	return string(l)
}

// notEncoded returns strings that are not encoded, neither alone nor between encoded ones.
func notEncoded() []string {
	return []string{
		"\x00", "\t", "\n", "\x7F", "\x80", "\xA0", "\xC3", "\xE9", "\xFF", "\xC1\xA1", "\xEF\xBC", "\xED\xA0\x80", "\xF4\x90\x80\x80",
		"\uFFFD", "\uFEFF", "\U0010FFFF", "\u0305", "\u0390", "\u03A2", "\u0402", "\u1E9E", "\u2003", "\u2013", "\u2019", "\u2028", "\u3000", "\uFB00", "\uFF00", "\uFF5F", "中",
	}
}

// spoil returns an encoded string with something that is not encoded.
func spoil(g *rand.Rand, s string) string {
	l := []rune(s)
	at := g.Intn(len(l) + 1)
	return string(l[:at]) + anyOf(g, notEncoded()) + string(l[at:])
}

// line returns words with the positions 0, 1, 2 and so on.
func line(texts ...string) []api.Word {
	var l []api.Word
	for i, text := range texts {
		l = append(l, api.Word{Text: text, Pos: i})
	}
	return l
}

// anyList returns words in any order; most have one of a few texts, and one of a few positions.
func anyList(g *rand.Rand, max int) []api.Word {
	base := anyOf(g, []int{0, 0, -3, 5, greatest - 3, least, 1<<32 - 2, -1<<31 - 2})
	l := make([]api.Word, g.Intn(max+1))
	for i := range l {
		l[i] = api.Word{Text: anyText(g), Pos: base + g.Intn(6)}
		if l[i].Pos < base { // behind the greatest int
			l[i].Pos = greatest
		}
		if g.Intn(20) == 0 {
			l[i].Pos = anyOf(g, []int{0, -1, least, least + 1, greatest, greatest - 1})
		}
	}
	return l
}

// anyText returns a text that a word of a list may have; it need not be a search form.
func anyText(g *rand.Rand) string {
	return anyOf(g, []string{"a", "a", "a", "b", "b", "c", "", "a b", "é", "\xFF", "B", " ", "ab"})
}

func modelOrdered(l []api.Word) bool {
	for i, w := range l {
		if w.Text == "" || w.Pos < 0 {
			return false
		}
		for _, ahead := range l[:i] {
			if ahead.Pos >= w.Pos {
				return false
			}
		}
	}
	return true
}

// modelFind returns the positions of the words that are wanted, ascending, each once.
func modelFind(l []api.Word, wanted func(w api.Word) bool) []int {
	var positions []int
	for _, w := range l {
		if wanted(w) && !slices.Contains(positions, w.Pos) {
			positions = append(positions, w.Pos)
		}
	}
	sort.Ints(positions)
	return positions
}

func modelPhrase(l []api.Word, words []string) []int {
	return modelFind(l, func(first api.Word) bool {
		for i, text := range words {
			// As numbers without a sign, the distances of any two positions are right.
			if !slices.ContainsFunc(l, func(w api.Word) bool {
				return w.Text == text && w.Pos >= first.Pos && uint(w.Pos)-uint(first.Pos) == uint(i)
			}) {
				return false
			}
		}
		return len(words) > 0
	})
}

func modelSet(l []api.Word) []string {
	var texts []string
	for _, w := range l {
		at := 0
		for at < len(texts) && strings.Compare(texts[at], w.Text) < 0 {
			at++
		}
		if at == len(texts) || texts[at] != w.Text {
			texts = slices.Insert(texts, at, w.Text)
		}
	}
	return texts
}

func modelJoin(l []api.Word) string {
	s := ""
	for i, w := range l {
		if i > 0 {
			s += " "
		}
		s += w.Text
	}
	return s
}

// modelZone returns the words of strings whose words are known.
func modelZone(l [][]string, gap int) []api.Word {
	var zone []api.Word
	for _, texts := range l {
		for i, text := range texts {
			pos := 0
			if len(zone) > 0 {
				pos = zone[len(zone)-1].Pos + 1
				if i == 0 {
					pos += gap
				}
			}
			zone = append(zone, api.Word{Text: text, Pos: pos})
		}
	}
	return zone
}
