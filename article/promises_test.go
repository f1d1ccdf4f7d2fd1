package article_test

import (
	"math/rand"
	"slices"
	"strings"
	"testing"
	"unicode/utf8"

	"bookplate/article"
	"bookplate/fold"
	rep "bookplate/repertoire"
)

func TestP9_2Rest(t *testing.T) {
	g := rand.New(rand.NewSource(93))
	found := map[string]int{}
	for range 60000 {
		lang := anyLang(g)
		title := anyTitle(g, lang)
		skip := article.Skip(lang, title)
		if skip == 0 {
			continue
		}
		front, rest := title[:skip], title[skip:]
		if rest == "" || rest[0] == ' ' || !encoded(rest) {
			t.Fatalf("%s, %+q: the rest %+q", lang, title, rest)
		}
		form := fold.Fold(strings.TrimRight(front, " "))
		if !slices.Contains(article.Articles(lang), form) || strings.HasSuffix(form, "'") == strings.HasSuffix(front, " ") {
			t.Fatalf("%s, %+q: the article %+q", lang, title, front)
		}
		if strip := article.Strip(lang, title); strip != rest {
			t.Fatalf("%s, %+q: %+q, and the rest %+q", lang, title, strip, rest)
		}
		found[lang+form]++
	}
	if len(found) != 4+4+3+7+5+5+10+6+6+4 {
		t.Error("some articles were never found:", len(found), found)
	}
}

// Nothing is cut off or added but spaces, a comma and another space.
func TestP9_2Invert(t *testing.T) {
	g := rand.New(rand.NewSource(94))
	for range 20000 {
		lang := anyLang(g)
		title := anyTitle(g, lang)
		skip := article.Skip(lang, title)
		if skip == 0 {
			continue
		}
		want := title[skip:] + ", " + strings.TrimRight(title[:skip], " ")
		if got := article.Invert(lang, title); got != want {
			t.Fatalf("%s, %+q: %+q, want %+q", lang, title, got, want)
		}
	}
}

// capitals returns an article with each choice of capital letters.
func capitals(a string) []string {
	l := []string{""}
	for _, c := range a {
		var longer []string
		for _, s := range l {
			longer = append(longer, s+string(c))
			if capital := strings.ToUpper(string(c)); capital != string(c) {
				longer = append(longer, s+capital)
			}
		}
		l = longer
	}
	return l
}

func TestP9_3Articles(t *testing.T) {
	rests := []string{"x", "End", "the end", "'", "l'a", "\u00A0", "\u0301", "Ω", "жук", "ﬁ ﬂ", "a ", "1", "-", "le la les"}
	count := 0
	for _, r := range table() {
		for _, a := range r.articles {
			for _, begin := range capitals(a) {
				count++
				gap := " "
				if strings.HasSuffix(a, "'") {
					gap = ""
				}
				for _, rest := range rests {
					checkTitle(t, r.lang, begin+gap+rest, begin, rest)
					if gap != "" {
						checkTitle(t, r.lang, begin+"  "+rest, begin, rest)
					}
				}
			}
		}
	}
	if count < 2*54 {
		t.Error("too few articles:", count)
	}
}

func TestP9_3AnyRest(t *testing.T) {
	g := rand.New(rand.NewSource(95))
	for range 20000 {
		r := anyOf(g, table())
		a := anyOf(g, r.articles)
		begin, rest := anyWriting(g, a), anyRest(g)
		if !strings.HasSuffix(a, "'") {
			begin += strings.Repeat(" ", 1+g.Intn(3))
		}
		if got := article.Skip(r.lang, begin+rest); got != len(begin) {
			t.Fatalf("%s, %+q and %+q: %d", r.lang, begin, rest, got)
		}
	}
}

func TestP9_4Others(t *testing.T) {
	g := rand.New(rand.NewSource(96))
	for range 40000 {
		lang := anyOf(g, table()).lang
		title := strings.Map(func(c rune) rune {
			if c == ' ' || strings.Contains(fold.Fold(string(c)), "'") {
				return -1
			}
			return c
		}, anyTitle(g, lang))
		if checkTitle(t, lang, title, "", ""); t.Failed() {
			return
		}
	}
	for _, r := range table() {
		for _, a := range r.articles {
			for _, gap := range []string{"", "\u00A0", "-", ".", "\u0301", "_"} {
				checkTitle(t, r.lang, strings.Trim(a, "'")+gap+"x", "", "")
			}
		}
	}
}

func TestP9_4OtherLanguages(t *testing.T) {
	g := rand.New(rand.NewSource(97))
	for range 2000 {
		title := anyTitle(g, anyOf(g, table()).lang)
		for _, lang := range otherLanguages() {
			if checkTitle(t, lang, title, "", ""); t.Failed() {
				return
			}
		}
	}
}

func TestP9_5Nonfiling(t *testing.T) {
	g := rand.New(rand.NewSource(98))
	counts := [10]int{}
	for range 60000 {
		lang := anyLang(g)
		title := anyTitle(g, lang)
		if g.Intn(4) == 0 {
			title = strings.Replace(title, " ", strings.Repeat(" ", 1+g.Intn(8)), 1)
		}
		skip := article.Skip(lang, title)
		n := utf8.RuneCountInString(title[:skip])
		if skip == 0 || n > 9 {
			continue
		}
		counts[n]++
		if got, want := article.Sort(title, n), article.Strip(lang, title); got != want {
			t.Fatalf("%s, %+q, %d: %+q, want %+q", lang, title, n, got, want)
		}
	}
	if slices.Min(counts[2:]) < 100 {
		t.Error("some numbers of characters come too seldom:", counts)
	}
}

// Each article, with as many spaces as nine characters leave room for, and with one more.
func TestP9_5EveryArticle(t *testing.T) {
	for _, r := range table() {
		for _, a := range r.articles {
			first, last := 1, 9-rep.Count(a)
			if strings.HasSuffix(a, "'") {
				first, last = 0, 0
			}
			for spaces := first; spaces <= last; spaces++ {
				front := a + strings.Repeat(" ", spaces)
				for _, rest := range []string{"x", "Été  x ", "ж"} {
					checkSort(t, front+rest, rep.Count(front), article.Strip(r.lang, front+rest))
					checkSort(t, front+rest, rep.Count(front), rest)
				}
			}
			long := a + strings.Repeat(" ", 10-rep.Count(a)) + "x"
			checkSort(t, long, 10, long)
		}
	}
}
