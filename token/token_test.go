package token_test

import (
	"math/rand"
	"slices"
	"strconv"
	"strings"
	"testing"

	"bookplate/api"
	"bookplate/fold"
	rep "bookplate/repertoire"
	"bookplate/token"
)

// P10.1: words

// checkWords checks the words of a string.
func checkWords(t *testing.T, s string, want ...string) {
	t.Helper()
	if l := token.Words(s); !slices.Equal(l, line(want...)) {
		t.Errorf("Words(%+.60q) = %.60v, want %.60q", s, l, want)
	}
	if l := token.Texts(s); !slices.Equal(l, want) {
		t.Errorf("Texts(%+.60q) = %.60q, want %.60q", s, l, want)
	}
}

func TestP10_1WordsExamples(t *testing.T) {
	for _, c := range []struct {
		s    string
		want []string
	}{
		{"L'été, à Paris", []string{"l", "ete", "a", "paris"}},
		{"", nil}, {" ", nil}, {"    ", nil}, {"\u00A0", nil}, {"!", nil}, {"-'\".,;", nil}, {"\u0301", nil}, {"\u0301 \u0327", nil}, {"\uFF01", nil},
		{"a", []string{"a"}}, {" a", []string{"a"}}, {"a ", []string{"a"}}, {"  a  ", []string{"a"}}, {"a b", []string{"a", "b"}}, {"a   b", []string{"a", "b"}}, {"a\u00A0b", []string{"a", "b"}}, {"a-b", []string{"a", "b"}}, {"a'b", []string{"a", "b"}}, {"a_b", []string{"a", "b"}}, {"a\uFF0Db", []string{"a", "b"}}, {"a, b.", []string{"a", "b"}}, {"(a)[b]", []string{"a", "b"}}, {"a \u0301 b", []string{"a", "b"}},
		// a word that comes again, each time at a place of its own
		{"a a A á", []string{"a", "a", "a", "a"}}, {"to be, or not to be", []string{"to", "be", "or", "not", "to", "be"}},
		// one word
		{"a\u0301b", []string{"ab"}}, {"e\u0301t\u0327e", []string{"ete"}}, {"1984", []string{"1984"}}, {"a1b2", []string{"a1b2"}}, {"x²", []string{"x2"}}, {"\uFF21\uFF42", []string{"ab"}}, {"aжα", []string{"aжα"}}, {"\u0301a", []string{"a"}},
		{"Straße", []string{"strasse"}}, {"ÞÆttir", []string{"thaettir"}}, {"ﬁﬂ", []string{"fifl"}}, {"İı", []string{"ii"}}, {"Łódź", []string{"lodz"}}, {"ΣΊΣΥΦΟΣ", []string{"σισυφοσ"}}, {"Сердце Їжака", []string{"сердце", "іжака"}},
		{"QA76.73 .G63 D66 2016 v.2", []string{"qa76", "73", "g63", "d66", "2016", "v", "2"}}, {"0-306-40615-2 (pbk.)", []string{"0", "306", "40615", "2", "pbk"}},
		// what is not encoded
		{"\xFF", nil}, {"a \xFF", nil}, {"a b\xC3", nil}, {"\x80a b", nil}, {"a\tb", nil}, {"a\nb", nil}, {"a\u2003b", nil}, {"a b \u3000 c", nil}, {"中 a", nil}, {"a\u2019b", nil}, {"\u0085", nil},
	} {
		checkWords(t, c.s, c.want...)
	}
}

func TestP10_1WordsOfAnyString(t *testing.T) {
	g := rand.New(rand.NewSource(101))
	empty, words := 0, 0
	for range 20000 {
		want := anyWords(g, 6)
		s := writeAll(g, want)
		if checkWords(t, s, want...); t.Failed() {
			return
		}
		if checkWords(t, spoil(g, s)); t.Failed() {
			return
		}
		if words += len(want); s != "" && len(want) == 0 {
			empty++
		}
	}
	if empty < 1000 || words < 40000 {
		t.Error("the strings are too much alike:", empty, words)
	}
}

// Each character either belongs to a word, or is left out, or stands between words.
func TestP10_1EveryCharacter(t *testing.T) {
	for _, c := range characters {
		s := string(rune(c))
		switch _, kind := rep.Class(c); kind {
		case rep.Mark:
			checkWords(t, s)
			checkWords(t, "x"+s+"y", "xy")
		case rep.Space, rep.Punct:
			checkWords(t, s)
			checkWords(t, "x"+s+"y", "x", "y")
		default:
			form := fold.Search(s)
			checkWords(t, s, form)
			checkWords(t, s+" "+s, form, form)
			checkWords(t, "x"+s+"y", "x"+form+"y")
		}
	}
}

func TestP10_1LongStrings(t *testing.T) {
	const n = 1 << 18
	many := token.Words(strings.Repeat("É - ", n))
	if len(many) != n || many[0] != (api.Word{Text: "e"}) || many[n-1] != (api.Word{Text: "e", Pos: n - 1}) || !token.Ordered(many) {
		t.Error("many words:", len(many))
	}
	checkWords(t, strings.Repeat("É", n), strings.Repeat("e", n))
	checkWords(t, strings.Repeat("- ", n))
	checkWords(t, strings.Repeat("É ", n)+"\xFF")
	if found := token.Phrase(many, token.Texts("é é é")); len(found) != n-2 || found[0] != 0 || found[n-3] != n-3 {
		t.Error("phrases of many words:", len(found))
	}
	if found := token.Find(many, "e"); len(found) != n || !slices.Equal(token.Set(many), []string{"e"}) {
		t.Error("many words:", len(found))
	}
	if len(token.Join(many)) != 2*n-1 {
		t.Error("joined:", len(token.Join(many)))
	}
}

// P10.1: zones

// checkZone checks a zone.
func checkZone(t *testing.T, l []string, gap int, want []api.Word) {
	t.Helper()
	if zone, err := token.Zone(l, gap); err != api.OK || !slices.Equal(zone, want) {
		t.Errorf("Zone(%+.99q, %d) = %.99v, %d, want %.99v", l, gap, zone, err, want)
	}
}

func TestP10_1ZoneExamples(t *testing.T) {
	for _, c := range []struct {
		l    []string
		gap  int
		want []api.Word
	}{
		{[]string{"a b", "c"}, 10, []api.Word{{Text: "a", Pos: 0}, {Text: "b", Pos: 1}, {Text: "c", Pos: 12}}},
		{[]string{"a b", "c"}, 0, line("a", "b", "c")}, {[]string{"a b", "c"}, 1, []api.Word{{Text: "a", Pos: 0}, {Text: "b", Pos: 1}, {Text: "c", Pos: 3}}}, {[]string{"a b", "c"}, 1000, []api.Word{{Text: "a", Pos: 0}, {Text: "b", Pos: 1}, {Text: "c", Pos: 1002}}},
		{nil, 0, nil}, {nil, 10, nil}, {nil, 1000, nil}, {[]string{}, 10, nil}, {[]string{""}, 10, nil}, {[]string{"", " ", "!", "\u0301", "\xFF"}, 10, nil}, {[]string{"a b"}, 10, line("a", "b")}, {[]string{"L'été"}, 1000, line("l", "ete")},
		{[]string{"a", "b", "c d", "e"}, 5, []api.Word{{Text: "a", Pos: 0}, {Text: "b", Pos: 6}, {Text: "c", Pos: 12}, {Text: "d", Pos: 13}, {Text: "e", Pos: 19}}},
		{[]string{"a", "a", "a"}, 2, []api.Word{{Text: "a", Pos: 0}, {Text: "a", Pos: 3}, {Text: "a", Pos: 6}}},
		// strings without words, and such that are not encoded, make no gap
		{[]string{"", "a"}, 10, line("a")}, {[]string{"!", " ", "a b"}, 10, line("a", "b")}, {[]string{"\xFF", "a"}, 10, line("a")}, {[]string{"b \xFF", "a"}, 10, line("a")}, {[]string{"a", "", "b"}, 10, []api.Word{{Text: "a", Pos: 0}, {Text: "b", Pos: 11}}}, {[]string{"a", "-", "\u0301", "", "b"}, 10, []api.Word{{Text: "a", Pos: 0}, {Text: "b", Pos: 11}}}, {[]string{"a", "c\x80", "b"}, 10, []api.Word{{Text: "a", Pos: 0}, {Text: "b", Pos: 11}}}, {[]string{"a", "", "c\tc", "!", "b", "", "d", ""}, 3, []api.Word{{Text: "a", Pos: 0}, {Text: "b", Pos: 4}, {Text: "d", Pos: 8}}},
		// what stands at the end of a string, and at the beginning of the next one, is not put together
		{[]string{"\xC3", "\xA9"}, 1, nil}, {[]string{"a\xC3", "\xA9b", "c"}, 1, line("c")}, {[]string{"a", "\u0301b"}, 1, []api.Word{{Text: "a", Pos: 0}, {Text: "b", Pos: 2}}},
	} {
		checkZone(t, c.l, c.gap, c.want)
	}
}

func TestP10_1ZoneRange(t *testing.T) {
	if token.MaxGap != 1000 {
		t.Error("MaxGap:", token.MaxGap)
	}
	for _, gap := range []int{-1, -2, -1000, 1001, 1002, 1 << 16, 1 << 32, 1<<32 + 1, -1 << 32, least, least + 1, greatest} {
		for _, l := range [][]string{nil, {""}, {"a"}, {"\xFF"}, {"a b", "c"}} {
			if zone, err := token.Zone(l, gap); err != api.ErrRange || len(zone) != 0 {
				t.Errorf("Zone(%q, %d): %v, %d", l, gap, zone, err)
			}
		}
	}
	for gap := range 1001 {
		checkZone(t, []string{"a", "b c", "d"}, gap, []api.Word{{Text: "a", Pos: 0}, {Text: "b", Pos: 1 + gap}, {Text: "c", Pos: 2 + gap}, {Text: "d", Pos: 3 + 2*gap}})
	}
}

func TestP10_1AnyZone(t *testing.T) {
	g := rand.New(rand.NewSource(102))
	for range 10000 {
		var l []string
		var words [][]string
		for range g.Intn(7) {
			texts := anyWords(g, 3)
			s := writeAll(g, texts)
			if g.Intn(5) == 0 {
				s, texts = spoil(g, s), nil
			}
			l, words = append(l, s), append(words, texts)
		}
		gap := anyOf(g, []int{0, 1, 2, 10, 999, 1000, g.Intn(1001)})
		if checkZone(t, l, gap, modelZone(words, gap)); t.Failed() {
			return
		}
	}
}

func TestP10_1LongZones(t *testing.T) {
	const n = 1 << 17
	l := slices.Repeat([]string{"a b", "", "c\xFF"}, n)
	zone, err := token.Zone(l, token.MaxGap)
	if err != api.OK || len(zone) != 2*n || zone[2*n-1] != (api.Word{Text: "b", Pos: (n-1)*1002 + 1}) || !token.Ordered(zone) {
		t.Error(err, len(zone))
	}
}

// P10.1: ordered lists

func TestP10_1OrderedExamples(t *testing.T) {
	for _, c := range []struct {
		l    []api.Word
		want bool
	}{
		{nil, true}, {[]api.Word{}, true}, {line("a"), true}, {line("a", "b", "c"), true}, {line("a", "a"), true}, {line("\xFF", " "), true}, {line("A", "é", "a b"), true},
		{[]api.Word{{Text: "a", Pos: 1}}, true}, {[]api.Word{{Text: "a", Pos: greatest}}, true}, {[]api.Word{{Text: "a", Pos: 0}, {Text: "b", Pos: greatest}}, true}, {[]api.Word{{Text: "a", Pos: greatest - 1}, {Text: "b", Pos: greatest}}, true}, {[]api.Word{{Text: "b", Pos: 3}, {Text: "a", Pos: 7}}, true},
		{line(""), false}, {line("a", ""), false}, {line("", "a"), false}, {line("a", "", "b"), false}, {[]api.Word{{Text: "", Pos: 7}}, false},
		{[]api.Word{{Text: "a", Pos: -1}}, false}, {[]api.Word{{Text: "a", Pos: least}}, false}, {[]api.Word{{Text: "a", Pos: -1}, {Text: "b", Pos: 0}}, false}, {[]api.Word{{Text: "a", Pos: -2}, {Text: "b", Pos: -1}}, false},
		{[]api.Word{{Text: "a", Pos: 0}, {Text: "b", Pos: 0}}, false}, {[]api.Word{{Text: "a", Pos: 1}, {Text: "b", Pos: 0}}, false}, {[]api.Word{{Text: "a", Pos: 0}, {Text: "a", Pos: 0}}, false}, {[]api.Word{{Text: "a", Pos: 0}, {Text: "b", Pos: -1}}, false}, {[]api.Word{{Text: "a", Pos: 0}, {Text: "b", Pos: 2}, {Text: "c", Pos: 1}}, false}, {[]api.Word{{Text: "a", Pos: 0}, {Text: "b", Pos: 2}, {Text: "c", Pos: 2}}, false},
		{[]api.Word{{Text: "a", Pos: greatest}, {Text: "b", Pos: greatest}}, false}, {[]api.Word{{Text: "a", Pos: greatest}, {Text: "b", Pos: 0}}, false}, {[]api.Word{{Text: "a", Pos: greatest}, {Text: "b", Pos: least}}, false}, {[]api.Word{{Text: "a", Pos: greatest}, {Text: "b", Pos: greatest - 1}}, false},
	} {
		if got := token.Ordered(c.l); got != c.want {
			t.Errorf("Ordered(%.99v) = %v", c.l, got)
		}
	}
}

// P10.1: lists of any words

// checkList checks what is said about a list: the positions of some texts, its texts, and these joined.
func checkList(t *testing.T, l []api.Word, phrases ...[]string) {
	t.Helper()
	if got, want := token.Ordered(l), modelOrdered(l); got != want {
		t.Errorf("Ordered(%v) = %v", l, got)
	}
	if got, want := token.Set(l), modelSet(l); !slices.Equal(got, want) {
		t.Errorf("Set(%v) = %q, want %q", l, got, want)
	}
	if got, want := token.Join(l), modelJoin(l); got != want {
		t.Errorf("Join(%v) = %q, want %q", l, got, want)
	}
	for _, words := range phrases {
		if got, want := token.Phrase(l, words), modelPhrase(l, words); !slices.Equal(got, want) {
			t.Errorf("Phrase(%v, %q) = %v, want %v", l, words, got, want)
		}
		for _, text := range words {
			want := modelFind(l, func(w api.Word) bool { return w.Text == text })
			if got := token.Find(l, text); !slices.Equal(got, want) {
				t.Errorf("Find(%v, %q) = %v, want %v", l, text, got, want)
			}
		}
	}
}

func TestP10_1FindExamples(t *testing.T) {
	l := []api.Word{{Text: "b", Pos: 4}, {Text: "a", Pos: 9}, {Text: "a", Pos: 2}, {Text: "a", Pos: 9}, {Text: "", Pos: 2}, {Text: "A", Pos: 1}, {Text: "a", Pos: -5}, {Text: "a b", Pos: 7}, {Text: "\xFF", Pos: greatest}, {Text: "\xFF", Pos: least}, {Text: "aa", Pos: 3}}
	for text, want := range map[string][]int{"a": {-5, 2, 9}, "b": {4}, "": {2}, "A": {1}, "a b": {7}, "\xFF": {least, greatest}, "aa": {3}, "c": nil, "á": nil, "a ": nil, "B": nil, "\xFE": nil, "a\x00": nil} {
		if got := token.Find(l, text); !slices.Equal(got, want) {
			t.Errorf("%q: %v, want %v", text, got, want)
		}
	}
	for _, text := range []string{"", "a"} {
		if got := token.Find(nil, text); len(got) != 0 {
			t.Errorf("%q in nothing: %v", text, got)
		}
	}
}

func TestP10_1SetExamples(t *testing.T) {
	for _, c := range []struct{ l, want []string }{
		{nil, nil}, {[]string{"a"}, []string{"a"}}, {[]string{"b", "a", "b", "c", "a"}, []string{"a", "b", "c"}}, {[]string{"a", ""}, []string{"", "a"}}, {[]string{"", ""}, []string{""}},
		// byte by byte: a beginning is less, and so are capital letters, and digits
		{[]string{"ab", "a", "abc", "b"}, []string{"a", "ab", "abc", "b"}}, {[]string{"a", "B", "2", "10"}, []string{"10", "2", "B", "a"}}, {[]string{"é", "z", "e", "ж", "α"}, []string{"e", "z", "é", "α", "ж"}}, {[]string{"\xFF", "\x80", "\x7F", "a\x00", "a"}, []string{"a", "a\x00", "\x7F", "\x80", "\xFF"}}, {[]string{"a b", "a", "a-b"}, []string{"a", "a b", "a-b"}},
	} {
		if got := token.Set(line(c.l...)); !slices.Equal(got, c.want) {
			t.Errorf("%q: %q, want %q", c.l, got, c.want)
		}
	}
}

func TestP10_1JoinExamples(t *testing.T) {
	for want, l := range map[string][]string{
		"": nil, "a": {"a"}, "a b c": {"a", "b", "c"}, "c a b a": {"c", "a", "b", "a"}, "a  b": {"a", "", "b"}, " ": {"", ""}, " a": {"", "a"}, "a ": {"a", ""}, "a b  c": {"a b", "", "c"}, "É \xFF": {"É", "\xFF"},
	} {
		if got := token.Join(line(l...)); got != want {
			t.Errorf("%q: %q", l, got)
		}
	}
	// the order of the list counts, not that of the positions
	if got := token.Join([]api.Word{{Text: "b", Pos: 7}, {Text: "a", Pos: -1}, {Text: "c", Pos: 7}}); got != "b a c" {
		t.Errorf("%q", got)
	}
}

func TestP10_1PhraseExamples(t *testing.T) {
	order := line("to", "be", "or", "not", "to", "be")
	mixed := []api.Word{{Text: "b", Pos: 4}, {Text: "a", Pos: 3}, {Text: "a", Pos: 4}, {Text: "b", Pos: 5}, {Text: "a", Pos: 3}, {Text: "c", Pos: 5}, {Text: "a", Pos: -1}, {Text: "b", Pos: 0}, {Text: "", Pos: 1}, {Text: "c", Pos: 7}}
	ends := []api.Word{{Text: "a", Pos: greatest}, {Text: "a", Pos: greatest - 1}, {Text: "b", Pos: least}, {Text: "a", Pos: least + 1}, {Text: "b", Pos: greatest}}
	for _, c := range []struct {
		l     []api.Word
		words []string
		want  []int
	}{
		{order, []string{"to", "be"}, []int{0, 4}}, {order, []string{"to"}, []int{0, 4}}, {order, []string{"be", "or"}, []int{1}}, {order, []string{"be", "to"}, nil}, {order, []string{"to", "be", "or", "not", "to", "be"}, []int{0}}, {order, []string{"to", "be", "or", "not", "to", "be", "to"}, nil}, {order, []string{"to", "or"}, nil}, {order, []string{"to", "be", "to"}, nil}, {order, []string{"To", "be"}, nil}, {order, []string{"to be"}, nil}, {order, []string{"to", ""}, nil}, {order, []string{"", "to"}, nil}, {order, []string{""}, nil},
		{order, nil, nil}, {order, []string{}, nil}, {nil, nil, nil}, {nil, []string{"a"}, nil}, {nil, []string{"", ""}, nil},
		{line("a", "a", "a"), []string{"a", "a"}, []int{0, 1}}, {line("a", "a", "a"), []string{"a", "a", "a", "a"}, nil},
		{mixed, []string{"a", "b"}, []int{-1, 3, 4}}, {mixed, []string{"a", "a"}, []int{3}}, {mixed, []string{"b", "b"}, []int{4}}, {mixed, []string{"b", "c"}, []int{4}}, {mixed, []string{"a", "b", ""}, []int{-1}}, {mixed, []string{"a", "b", "c"}, []int{3}}, {mixed, []string{"b", "a"}, nil}, {mixed, []string{"c"}, []int{5, 7}}, {mixed, []string{"c", "c"}, nil}, {mixed, []string{""}, []int{1}},
		// no word stands behind the greatest int
		{ends, []string{"a", "a"}, []int{greatest - 1}}, {ends, []string{"a", "b"}, []int{greatest - 1}}, {ends, []string{"b", "a"}, []int{least}}, {ends, []string{"a", "b", "a"}, nil}, {ends, []string{"a", "a", "b"}, nil}, {ends, []string{"a"}, []int{least + 1, greatest - 1, greatest}}, {ends, []string{"b"}, []int{least, greatest}}, {ends, []string{"b", "b"}, nil},
	} {
		if got := token.Phrase(c.l, c.words); !slices.Equal(got, c.want) {
			t.Errorf("Phrase(%v, %q) = %v, want %v", c.l, c.words, got, c.want)
		}
	}
}

func TestP10_1AnyList(t *testing.T) {
	g := rand.New(rand.NewSource(103))
	ordered, long := 0, 0
	for range 60000 {
		l := anyList(g, 12)
		words := make([]string, g.Intn(5))
		for i := range words {
			words[i] = anyOf(g, []string{"a", "a", "b", anyText(g)})
		}
		if checkList(t, l, words); t.Failed() {
			return
		}
		if len(l) > 1 && token.Ordered(l) {
			ordered++
		}
		if len(words) > 1 && len(token.Phrase(l, words)) > 0 {
			long++
		}
	}
	if ordered < 1000 || long < 1500 {
		t.Error("the lists are too much alike:", ordered, long)
	}
}

// All short lists of a few words, with all short phrases.
func TestP10_1ShortLists(t *testing.T) {
	phrases := [][]string{nil}
	for i := 0; len(phrases) < 1+3+9+27; i++ {
		for _, text := range []string{"a", "b", ""} {
			phrases = append(phrases, append(slices.Clone(phrases[i]), text))
		}
	}
	for _, positions := range [][]int{{0, 1, 2}, {-1, 0, 1}, {greatest - 1, greatest, least}} {
		lists := [][]api.Word{nil}
		for i := 0; len(lists) < 1+9+81+729; i++ {
			for _, pos := range positions {
				for _, text := range []string{"a", "b", ""} {
					lists = append(lists, append(slices.Clone(lists[i]), api.Word{Text: text, Pos: pos}))
				}
			}
		}
		for _, l := range lists {
			if checkList(t, l, phrases...); t.Failed() {
				return
			}
		}
	}
}

func TestP10_1LongPhrases(t *testing.T) {
	const n = 1 << 17
	l := make([]api.Word, n)
	words := make([]string, n)
	for i := range l {
		words[i] = strconv.Itoa(i % (n - 9)) // so that the first nine words are also the last ones
		l[n-1-i] = api.Word{Text: words[i], Pos: i - n/2}
	}
	if found := token.Phrase(l, words); !slices.Equal(found, []int{-n / 2}) {
		t.Error("the whole list:", found)
	}
	if found := token.Phrase(l, words[1:]); !slices.Equal(found, []int{1 - n/2}) {
		t.Error("nearly the whole list:", found)
	}
	if found := token.Phrase(l, words[:9]); !slices.Equal(found, []int{-n / 2, n/2 - 9}) {
		t.Error("the beginning of the list:", found)
	}
	if found := token.Phrase(l, append(words, "a")); len(found) != 0 {
		t.Error("more than the whole list:", found)
	}
}

// P1, P2 and the Rules

// Arguments must not be changed, and results must be new memory.
func TestP10_1Memory(t *testing.T) {
	g := rand.New(rand.NewSource(104))
	for range 2000 {
		l, words := anyList(g, 10), []string{"a", "b"}[:1+g.Intn(2)]
		before := slices.Clone(l)
		token.Ordered(l)
		token.Join(l)
		clear(token.Find(l, "a"))
		clear(token.Set(l))
		clear(token.Phrase(l, words))
		if !slices.Equal(l, before) || words[0] != "a" || words[len(words)-1] == "" {
			t.Fatalf("%v, now %v; %q", before, l, words)
		}
		checkList(t, l, words)
	}
	strs := []string{"b a", "\xFF", "c"}
	zone, _ := token.Zone(strs, 1)
	clear(zone)
	clear(token.Words("b a"))
	clear(token.Texts("b a"))
	checkWords(t, "b a", "b", "a")
	checkZone(t, strs, 1, []api.Word{{Text: "b", Pos: 0}, {Text: "a", Pos: 1}, {Text: "c", Pos: 3}})
	if !slices.Equal(strs, []string{"b a", "\xFF", "c"}) {
		t.Errorf("%q", strs)
	}
}

// For what is a set, the order of the list does not matter.
func TestP10_1OrderOfLists(t *testing.T) {
	g := rand.New(rand.NewSource(105))
	for range 5000 {
		l, words := anyList(g, 10), []string{anyText(g), anyText(g)}
		other := slices.Clone(l)
		g.Shuffle(len(other), func(i, j int) { other[i], other[j] = other[j], other[i] })
		if !slices.Equal(token.Set(l), token.Set(other)) || !slices.Equal(token.Find(l, words[0]), token.Find(other, words[0])) || !slices.Equal(token.Phrase(l, words), token.Phrase(other, words)) {
			t.Fatalf("%v and %v, %q", l, other, words)
		}
	}
}
