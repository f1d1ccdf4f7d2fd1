package collate_test

import (
	"bytes"
	"math/rand"
	"slices"
	"strings"
	"testing"
	"unicode"

	"bookplate/collate"
	"bookplate/normal"
	rep "bookplate/repertoire"
)

func TestP8_2Keys(t *testing.T) {
	g := rand.New(rand.NewSource(85))
	results := [3]int{}
	for i := range 20000 {
		alphabet := anyAlphabet(g)
		l := anyTailoring(g, alphabet, []int{0, 3, 8, 40}[i%4])
		a := anyString(g, l, alphabet, 6)
		b := anyNear(g, a, alphabet)
		if i%5 == 0 {
			b = anyString(g, l, alphabet, 3)
		}
		want := modelCompare(l, a, b)
		if got := bytes.Compare(collate.Key(l, a), collate.Key(l, b)); got != want || collate.Compare(l, a, b) != want {
			t.Fatalf("%+q: the keys of %+q and %+q: %d, want %d", l, a, b, got, want)
		}
		results[want+1]++
	}
	if min(results[0], results[1], results[2]) < 3000 {
		t.Error("the strings are too much alike:", results)
	}
}

func TestP8_3TotalOrder(t *testing.T) {
	g := rand.New(rand.NewSource(86))
	equal, chains := 0, 0
	for i := range 1500 {
		alphabet := anyAlphabet(g)
		l := anyTailoring(g, alphabet, []int{0, 3, 8, 40}[i%4])
		list := anyList(g, l, alphabet, 8)
		order := map[[2]int]int{}
		for i, a := range list {
			for j, b := range list {
				c := collate.Compare(l, a, b)
				order[[2]int{i, j}] = c
				if c < -1 || c > 1 || (c == 0) != normal.Equal(a, b) {
					t.Fatalf("%+q: %+q and %+q: %d", l, a, b, c)
				}
				if c == 0 && a != b {
					equal++
				}
			}
		}
		for i := range list {
			for j := range list {
				if order[[2]int{i, j}] != -order[[2]int{j, i}] {
					t.Fatalf("%+q: %+q and %+q, each ahead of the other", l, list[i], list[j])
				}
				for k := range list {
					if order[[2]int{i, j}] <= 0 && order[[2]int{j, k}] <= 0 {
						chains++
						if order[[2]int{i, k}] > 0 {
							t.Fatalf("%+q: %+q, %+q, %+q", l, list[i], list[j], list[k])
						}
					}
				}
			}
		}
	}
	if equal < 1000 || chains < 30000 {
		t.Error("the strings are too different:", equal, chains)
	}
}

// withMarks inserts some marks, at least one.
func withMarks(g *rand.Rand, s string) string {
	l := []rune(s)
	for range 1 + g.Intn(3) {
		l = slices.Insert(l, g.Intn(len(l)+1), anyRune(g, marks))
	}
	return string(l)
}

func TestP8_4Marks(t *testing.T) {
	g := rand.New(rand.NewSource(87))
	for range 20000 {
		s := anyString(g, nil, anyAlphabet(g), 8)
		marked := withMarks(g, s)
		if !slices.Equal(collate.Primary(nil, s), collate.Primary(nil, marked)) {
			t.Fatalf("%+q and %+q: %d, %d", s, marked, collate.Primary(nil, s), collate.Primary(nil, marked))
		}
		without := normal.Strip(s)
		marked = withMarks(g, without)
		if g.Intn(2) == 0 {
			marked = normal.Compose(marked)
		}
		if collate.Compare(nil, without, marked) != -1 || collate.Compare(nil, marked, without) != 1 {
			t.Fatalf("%+q and %+q: %d", without, marked, collate.Compare(nil, without, marked))
		}
	}
}

func TestP8_4Cases(t *testing.T) {
	g := rand.New(rand.NewSource(88))
	changed := 0
	for range 20000 {
		s := normal.Decompose(anyString(g, nil, anyAlphabet(g), 8))
		capital := upper(g, s, 2)
		if !slices.Equal(collate.Primary(nil, s), collate.Primary(nil, capital)) {
			t.Fatalf("%+q and %+q: %d, %d", s, capital, collate.Primary(nil, s), collate.Primary(nil, capital))
		}
		if capital == s {
			continue
		}
		changed++
		a, b := normal.Compose(s), normal.Compose(capital)
		if collate.Compare(nil, s, capital) != -1 || collate.Compare(nil, b, a) != 1 {
			t.Fatalf("%+q and %+q: %d", s, capital, collate.Compare(nil, s, capital))
		}
	}
	if changed < 10000 {
		t.Error("too few letters are changed:", changed)
	}
}

// Every small letter of the repertoire is ahead of its capital one, also with marks, and every letter without marks ahead of it with marks.
func TestP8_4EveryLetter(t *testing.T) {
	capitals := 0
	for _, c := range rep.List() {
		s := string(rune(c))
		if !unicode.IsLetter(rune(c)) || normal.Decompose(s) != s {
			continue
		}
		for _, m := range marks {
			ascending(t, nil, s, s+string(m))
		}
		if capital := string(capitalOf(rune(c))); capital != s {
			capitals++
			ascending(t, nil, s, capital)
			ascending(t, nil, s+"\u0301z", capital+"\u0301z")
		}
	}
	if capitals != 26+10+24+31+3 {
		t.Error(capitals)
	}
}

// next returns the letter of the root with the least primary weight that is greater than that of a letter, or nothing.
func next(after string) string {
	found := ""
	for _, c := range searchLetters {
		s := string(c)
		if modelLetter(c) > modelLetter([]rune(after)[0]) && (found == "" || modelLetter(c) < modelLetter([]rune(found)[0])) {
			found = s
		}
	}
	return found
}

// beginning returns the number of the letter with which a string begins, from 1 on; 0 if there is none.
func beginning(t tailoring, s string) int {
	l := []rune(normal.Decompose(s))
	for i, c := range l {
		l[i] = smallOf(c)
	}
	return modelLongest(t, l)
}

func TestP8_5Letters(t *testing.T) {
	g := rand.New(rand.NewSource(89))
	behind, ahead := 0, 0
	for range 20000 {
		alphabet := anyAlphabet(g)
		l := anyTailoring(g, alphabet, 12)
		if len(l) == 0 {
			continue
		}
		i := g.Intn(len(l))
		s := upper(g, l[i].Text, 3) + anyString(g, l, alphabet, 4)
		if beginning(l, s) != i+1 {
			continue // it goes on as a longer letter
		}
		if before := upper(g, l[i].After, 3) + anyString(g, l, alphabet, 4); beginning(l, before) == 0 {
			behind++
			ascending(t, l, before, s)
		}
		if n := next(l[i].After); n != "" {
			if further := upper(g, n, 3) + anyString(g, l, alphabet, 4); beginning(l, further) == 0 {
				ahead++
				ascending(t, l, s, further)
			}
		}
	}
	if behind < 5000 || ahead < 5000 {
		t.Error("too few strings are compared:", behind, ahead)
	}
}

func TestP8_5OwnTailorings(t *testing.T) {
	ascending(t, collate.Swedish(), "z\u0301", "Z\u0308z", "zzz", "å", "Åz", "äa", "ÄZ", "ö", "öö", "α", "а")
	ascending(t, collate.Czech(), "cz", "č", "čz", "d", "hz", "ch", "CHz", "i", "rz", "ř", "s", "sz", "š", "šz", "t", "zz", "ž", "žž", "α")
	// letters behind the same letter are in the order of the tailoring
	ascending(t, letters("q", "a", "z", "a", "c", "a"), "a", "az\u0301", "ac", "ab", "q", "z", "c", "b")
}

func TestP8_6Beginnings(t *testing.T) {
	g := rand.New(rand.NewSource(90))
	for range 20000 {
		alphabet := anyAlphabet(g)
		s := anyString(g, nil, alphabet, 6)
		c := anyRune(g, characters)
		if g.Intn(2) == 0 {
			c = anyRune(g, alphabet)
		}
		if unicode.Is(unicode.Mn, c) {
			continue
		}
		long := s + string(c) + anyString(g, nil, alphabet, 3)
		if collate.Compare(nil, s, long) != -1 || collate.Compare(nil, long, s) != 1 {
			t.Fatalf("%+q and %+q: %d", s, long, collate.Compare(nil, s, long))
		}
		upperLong := upper(g, normal.Decompose(long), 2)
		if start := upperLong[:len(normal.Decompose(s))]; collate.Compare(nil, start, upperLong) != -1 {
			t.Fatalf("%+q and %+q: %d", start, upperLong, collate.Compare(nil, start, upperLong))
		}
	}
	// a letter that is behind a longer one of the tailoring
	if collate.Compare(collate.Czech(), "hc", "hch") != -1 || collate.Compare(letters("ab", "a"), "b", "ba") != -1 {
		t.Error("in these tailorings, a beginning is ahead, too")
	}
	// a tailoring may put a beginning behind
	if collate.Compare(letters("zz", "a"), "z", "zz") != 1 {
		t.Error("zz is a letter behind a")
	}
}

func TestP8_7Sorting(t *testing.T) {
	g := rand.New(rand.NewSource(91))
	moved, equal := 0, 0
	for i := range 5000 {
		alphabet := anyAlphabet(g)
		l := anyTailoring(g, alphabet, []int{0, 3, 8, 40}[i%4])
		list := anyList(g, l, alphabet, 20)
		sorted := collate.Sort(l, list)
		for i := 1; i < len(sorted); i++ {
			c := collate.Compare(l, sorted[i-1], sorted[i])
			if c > 0 {
				t.Fatalf("%+q: %+q is ahead of %+q", l, sorted[i-1], sorted[i])
			}
			if c == 0 && sorted[i-1] != sorted[i] {
				equal++
			}
		}
		for _, s := range list {
			if same := func(x string) bool { return normal.Equal(x, s) }; !slices.Equal(filter(list, same), filter(sorted, same)) {
				t.Fatalf("%+q: %+q becomes %+q", l, list, sorted)
			}
		}
		if len(sorted) != len(list) {
			t.Fatalf("%+q becomes %+q", list, sorted)
		}
		if strings.Join(sorted, "\n") != strings.Join(list, "\n") {
			moved++
		}
		if !slices.Equal(collate.Sort(l, sorted), sorted) {
			t.Fatalf("%+q: %+q, sorted again, becomes %+q", l, sorted, collate.Sort(l, sorted))
		}
	}
	if moved < 3000 || equal < 1500 {
		t.Error("the lists are too much alike:", moved, equal)
	}
}

func filter(l []string, keep func(string) bool) []string {
	var out []string
	for _, s := range l {
		if keep(s) {
			out = append(out, s)
		}
	}
	return out
}
