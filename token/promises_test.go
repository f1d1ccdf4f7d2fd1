package token_test

import (
	"math/rand"
	"slices"
	"strings"
	"testing"

	"bookplate/api"
	"bookplate/article"
	"bookplate/collate"
	"bookplate/fold"
	"bookplate/normal"
	"bookplate/token"
)

// forStrings calls a check for every character, and for many encoded strings.
func forStrings(seed int64, check func(g *rand.Rand, s string)) {
	g := rand.New(rand.NewSource(seed))
	check(g, "")
	for _, c := range characters {
		check(g, string(rune(c)))
		check(g, "x"+string(rune(c))+"y")
	}
	for range 10000 {
		check(g, anyEncoded(g, 12))
		check(g, writeAll(g, anyWords(g, 5)))
	}
}

func TestP10_2SearchForms(t *testing.T) {
	forStrings(106, func(g *rand.Rand, s string) {
		form, l := fold.Search(s), token.Words(s)
		if joined := token.Join(l); joined != form {
			t.Fatalf("%+q: joined %q, but the search form is %q", s, joined, form)
		}
		if joined := strings.Join(token.Texts(s), " "); joined != form {
			t.Fatalf("%+q: the texts joined are %q, but the search form is %q", s, joined, form)
		}
		for _, w := range l {
			if !fold.Is(w.Text) || strings.Contains(w.Text, " ") {
				t.Fatalf("%+q: the word %q", s, w.Text)
			}
		}
	})
}

func TestP10_2SameSearchForm(t *testing.T) {
	g := rand.New(rand.NewSource(107))
	for range 10000 {
		words := anyWords(g, 5)
		a, b := writeAll(g, words), writeAll(g, words)
		if fold.Search(a) != fold.Search(b) || !slices.Equal(token.Words(a), token.Words(b)) || !slices.Equal(token.Texts(a), token.Texts(b)) {
			t.Fatalf("%+q and %+q: %v and %v", a, b, token.Words(a), token.Words(b))
		}
	}
	for _, wrong := range notEncoded() {
		if fold.Search(wrong) != fold.Search("") || len(token.Words(wrong)) != 0 {
			t.Errorf("%+q: %v", wrong, token.Words(wrong))
		}
	}
}

// anyStrings returns encoded strings, and the number of words that each has.
func anyStrings(g *rand.Rand) (l []string, counts []int) {
	for range g.Intn(6) {
		s := writeAll(g, anyWords(g, 3))
		if g.Intn(4) == 0 {
			s = anyEncoded(g, 8)
		}
		l, counts = append(l, s), append(counts, len(token.Words(s)))
	}
	return l, counts
}

func TestP10_3Positions(t *testing.T) {
	forStrings(108, func(_ *rand.Rand, s string) {
		l := token.Words(s)
		if !token.Ordered(l) || !modelOrdered(l) {
			t.Fatalf("%+q: %v", s, l)
		}
		for i, w := range l {
			if w.Pos != i {
				t.Fatalf("%+q: %v", s, l)
			}
		}
	})
	g := rand.New(rand.NewSource(109))
	for range 10000 {
		l, _ := anyStrings(g)
		for _, gap := range []int{0, 1, 10, 1000, g.Intn(1001)} {
			zone, err := token.Zone(append(l, "\xFF"), gap)
			if err != api.OK || !token.Ordered(zone) || !modelOrdered(zone) || len(zone) > 0 && zone[0].Pos != 0 {
				t.Fatalf("%+q, %d: %v", l, gap, zone)
			}
		}
	}
}

func TestP10_3GapZero(t *testing.T) {
	g := rand.New(rand.NewSource(110))
	for range 20000 {
		l, _ := anyStrings(g)
		zone, err := token.Zone(l, 0)
		if want := token.Words(strings.Join(l, " ")); err != api.OK || !slices.Equal(zone, want) {
			t.Fatalf("%+q: %v, want %v", l, zone, want)
		}
	}
}

func TestP10_4Gaps(t *testing.T) {
	g := rand.New(rand.NewSource(111))
	inside, across := 0, 0
	for range 20000 {
		l, counts := anyStrings(g)
		gap := anyOf(g, []int{1, 1, 2, 10, 1000})
		zone, err := token.Zone(l, gap)
		if err != api.OK {
			t.Fatal(l, gap, err)
		}
		end := map[int]int{} // of each word, the position of the last one of its string
		at := 0
		for _, n := range counts {
			for i := range n {
				end[zone[at+i].Pos] = zone[at+n-1].Pos
			}
			at += n
		}
		if at != len(zone) {
			t.Fatalf("%+q, %d: %v", l, gap, zone)
		}
		for i := range zone {
			for j := i + 1; j <= len(zone); j++ {
				words := token.Texts(token.Join(zone[i:j]))
				for _, p := range token.Phrase(zone, words) {
					if p+len(words)-1 > end[p] {
						t.Fatalf("%+q, %d: %q is found at %d of %v", l, gap, words, p, zone)
					}
				}
				if zone[j-1].Pos <= end[zone[i].Pos] {
					inside++
				} else {
					across++
				}
			}
		}
	}
	if inside < 20000 || across < 20000 {
		t.Error("the zones are too much alike:", inside, across)
	}
}

// The phrases of a zone with a gap are those of its strings; without a gap there are more.
func TestP10_4PhrasesOfStrings(t *testing.T) {
	for gap := range 4 {
		zone, _ := token.Zone([]string{"war and", "peace and war", "and peace"}, gap)
		for text, want := range map[string][]int{"war and": {0}, "and peace": {5 + 2*gap}, "and war": {3 + gap}, "peace and war": {2 + gap}, "and peace and": nil, "war and peace": nil} {
			if gap == 0 {
				want = map[string][]int{"war and": {0, 4}, "and peace": {1, 5}, "and war": {3}, "peace and war": {2}, "and peace and": {1}, "war and peace": {0, 4}}[text]
			}
			if found := token.Phrase(zone, token.Texts(text)); !slices.Equal(found, want) {
				t.Errorf("%q with the gap %d: %v, want %v", text, gap, found, want)
			}
		}
	}
}

func TestP10_5Finding(t *testing.T) {
	g := rand.New(rand.NewSource(112))
	several := 0
	for range 20000 {
		l := anyList(g, 12)
		if g.Intn(4) == 0 {
			strs, _ := anyStrings(g)
			l, _ = token.Zone(strs, g.Intn(3))
		}
		var all, found []int
		for _, w := range l {
			all = append(all, w.Pos)
		}
		texts := token.Set(l)
		for _, text := range texts {
			positions := token.Find(l, text)
			if len(positions) == 0 || !slices.IsSorted(positions) || len(slices.Compact(slices.Clone(positions))) != len(positions) {
				t.Fatalf("%v, %q: %v", l, text, positions)
			}
			found = append(found, positions...)
		}
		for _, text := range append(texts, "", "a", "zz") {
			if one, positions := token.Phrase(l, []string{text}), token.Find(l, text); !slices.Equal(one, positions) {
				t.Fatalf("%v, %q: the phrase is at %v, the word at %v", l, text, one, positions)
			}
		}
		if slices.Sort(all); len(all) > len(slices.Compact(slices.Clone(all))) {
			several++
		}
		if slices.Sort(found); !slices.Equal(slices.Compact(found), slices.Compact(all)) {
			t.Fatalf("%v: found at %v", l, found)
		}
	}
	if several < 5000 {
		t.Error("words share positions too seldom:", several)
	}
}

// W1

// anyTitle returns a title with a leading article of a language, and its rest.
func anyTitle(g *rand.Rand) (lang, title, rest string) {
	lang = anyOf(g, article.Languages())
	a := anyOf(g, article.Articles(lang))
	front := ""
	for _, c := range a {
		front += string(writeLetter(g, c))
	}
	if !strings.HasSuffix(a, "'") {
		front += strings.Repeat(" ", 1+g.Intn(3))
	}
	for rest == "" || rest[0] == ' ' {
		rest = writeAll(g, anyWords(g, 5))
		if g.Intn(3) == 0 {
			rest = anyEncoded(g, 10)
		}
	}
	return lang, front + rest, rest
}

// checkAlike checks that two titles have the same words and primary weights. A folded form has ss for ß, so that a letter of a tailoring that begins with s may be found there alone.
func checkAlike(t *testing.T, title, a, b string) {
	t.Helper()
	if !slices.Equal(token.Words(a), token.Words(b)) {
		t.Errorf("%+q: %+q has the words %v, %+q has %v", title, a, token.Words(a), b, token.Words(b))
	}
	tailorings := [][]collate.Letter{nil, collate.Swedish()}
	if !strings.Contains(title, "ß") {
		tailorings = append(tailorings, collate.Czech())
	}
	for i, tailoring := range tailorings {
		if x, y := collate.Primary(tailoring, a), collate.Primary(tailoring, b); !slices.Equal(x, y) {
			t.Errorf("%+q: in the tailoring %d, %+q has the primary weights %v, %+q has %v", title, i, a, x, b, y)
		}
	}
}

func TestW1Titles(t *testing.T) {
	for _, c := range []struct {
		lang, title string
		words       []string
	}{
		{"eng", "The  End", []string{"end"}}, {"fre", "L'Été à Łódź", []string{"ete", "a", "lodz"}}, {"ger", "Die Straße", []string{"strasse"}}, {"dut", "'T Huis-boek", []string{"huis", "boek"}}, {"gre", "Ο Σίσυφος", []string{"σισυφοσ"}}, {"swe", "Den Åka", []string{"aka"}}, {"spa", "Los ¹", []string{"1"}}, {"eng", "A The", []string{"the"}}, {"ita", "L'l'ﬁlo", []string{"l", "filo"}}, {"eng", "The !", nil}, {"eng", "\uFF34he \u0301x", []string{"x"}},
	} {
		skip := article.Skip(c.lang, c.title)
		if skip == 0 || !slices.Equal(token.Words(c.title[skip:]), line(c.words...)) {
			t.Errorf("%+q: %d, %v", c.title, skip, token.Words(c.title[skip:]))
		}
		folded := fold.Fold(c.title)
		checkAlike(t, c.title, c.title[skip:], folded[article.Skip(c.lang, folded):])
	}
}

func TestW1AnyTitle(t *testing.T) {
	g := rand.New(rand.NewSource(113))
	words, folds := 0, 0
	for range 8000 {
		lang, title, rest := anyTitle(g)
		skip := article.Skip(lang, title)
		if skip == 0 {
			t.Fatalf("%s: %+q has no article", lang, title)
		}
		checkAlike(t, title, title[skip:], rest)
		checkAlike(t, title, article.Strip(lang, title), rest)
		checkAlike(t, title, title[skip:], fold.Fold(title[skip:]))
		// In the folded form, U+00A0 is a space, which an article is followed by, or not.
		if folded := fold.Fold(title); !strings.HasPrefix(rest, "\u00A0") {
			checkAlike(t, title, title[skip:], article.Strip(lang, folded))
			folds++
		}
		if t.Failed() {
			return
		}
		words += len(token.Words(rest))
	}
	if words < 8000 || folds < 6000 {
		t.Error("the titles are too much alike:", words, folds)
	}
}

// W2

func TestW2Forms(t *testing.T) {
	found := 0
	forStrings(114, func(g *rand.Rand, s string) {
		form, texts := fold.Search(s), token.Texts(s)
		want := token.Words(form)
		for _, other := range []string{s, form, normal.Decompose(s), normal.Compose(s), normal.Strip(s), fold.Fold(s), fold.Fold(normal.Compose(s)), "-" + s + " ", strings.Join(texts, " - ")} {
			l := token.Words(other)
			if !slices.Equal(l, want) {
				t.Fatalf("%+q: %v, but the search form %q has %v", other, l, form, want)
			}
			if at := token.Phrase(l, texts); len(texts) > 0 && !slices.Equal(at, []int{0}) || len(texts) == 0 && len(at) > 0 {
				t.Fatalf("%+q: the phrase %q is found at %v", other, texts, at)
			}
			for i := range texts {
				j := i + 1 + g.Intn(len(texts)-i)
				if at := token.Phrase(l, texts[i:j]); !slices.Contains(at, i) {
					t.Fatalf("%+q: the phrase %q is found at %v", other, texts[i:j], at)
				}
				found++
			}
		}
	})
	if found < 100000 {
		t.Error("the strings have too few words:", found)
	}
}

// The words of a string are found in a zone wherever the string stands in it.
func TestW2Zones(t *testing.T) {
	g := rand.New(rand.NewSource(115))
	for range 5000 {
		l, counts := anyStrings(g)
		gap := g.Intn(4)
		zone, err := token.Zone(l, gap)
		if err != api.OK {
			t.Fatal(l, gap, err)
		}
		at := 0
		for i, s := range l {
			form := fold.Search(s)
			if counts[i] > 0 && !slices.Contains(token.Phrase(zone, token.Texts(form)), zone[at].Pos) {
				t.Fatalf("%+q is not found at %d of %v", form, zone[at].Pos, zone)
			}
			at += counts[i]
		}
	}
}
