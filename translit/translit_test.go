package translit_test

import (
	"math/rand"
	"slices"
	"strconv"
	"strings"
	"testing"

	rep "bookplate/repertoire"
	"bookplate/translit"
)

// P7.1: tables

func TestP7_1ValidExamples(t *testing.T) {
	six, seven := "éжﬁ\u0301\uFF21 ", "éжﬁ\u0301\uFF21 a"
	for _, c := range []struct {
		name string
		t    table
		want bool
	}{
		{"one rule", pairs2("a", "b"), true},
		{"to itself", pairs2("a", "a"), true},
		{"a space", pairs2(" ", "a", "a", " ", "\u00A0", "  "), true},
		{"a mark", pairs2("\u0301", "\u0300"), true},
		{"the same To", pairs2("a", "b", "c", "b"), true},
		{"beginnings of others", pairs2("a", "b", "ab", "bc", "abc", "b"), true},
		{"to each other", pairs2("a", "b", "b", "a"), true},
		{"six characters", pairs2("abcdef", "ghijkl"), true},
		{"six characters of up to three bytes", pairs2(six, six), true},
		{"equal but not the same", pairs2("é", "a", "e\u0301", "a", "É", "a"), true},
		{"no rule", nil, false},
		{"no rule, either", table{}, false},
		{"From is empty", pairs2("", "a"), false},
		{"To is empty", pairs2("a", ""), false},
		{"both are empty", table{{}}, false},
		{"From is too long", pairs2("abcdefg", "a"), false},
		{"To is too long", pairs2("a", "abcdefg"), false},
		{"From has seven characters of up to three bytes", pairs2(seven, "a"), false},
		{"To has seven characters of up to three bytes", pairs2("a", seven), false},
		{"the same From", pairs2("a", "b", "a", "c"), false},
		{"the same rule", pairs2("a", "b", "a", "b"), false},
		{"the same From, far from each other", pairs2("a", "b", "b", "b", "c", "b", "a", "c"), false},
		{"the same From of more characters", pairs2("aé", "b", "b", "b", "aé", "c"), false},
		{"the fault is in the last rule", pairs2("a", "b", "b", "c", "c", ""), false},
		{"the fault is in the first rule", pairs2("", "b", "b", "c", "c", "d"), false},
		{"From is not encoded", pairs2("a\xFF", "b"), false},
		{"To is not encoded", pairs2("a", "\xFFb"), false},
		{"From is not in the repertoire", pairs2("中", "b"), false},
		{"To is not in the repertoire", pairs2("a", "\n"), false},
		{"80 rules", numbered(80), true},
		{"81 rules", numbered(81), false},
		{"79 rules and one of them again", append(numbered(79), numbered(1)...), false},
		{"many rules", numbered(10000), false},
	} {
		if translit.Valid(c.t) != c.want {
			t.Errorf("%s: %v", c.name, !c.want)
		}
	}
}

// numbered returns a table of n rules, of which none is the beginning of another.
func numbered(n int) table {
	var t table
	for i := range n {
		s := strconv.Itoa(10000 + i)
		t = append(t, translit.Rule{From: s, To: s})
	}
	return t
}

func TestP7_1Limit(t *testing.T) {
	if translit.MaxRules != 80 {
		t.Error(translit.MaxRules)
	}
}

func TestP7_1ReversibleExamples(t *testing.T) {
	for _, c := range []struct {
		t    table
		want bool
	}{
		{pairs2("a", "b"), true}, {pairs2("a", "a"), true}, {pairs2("a", "b", "b", "a"), true}, {pairs2("a", "xy", "b", "xz", "c", "y"), true}, {pairs2("a", "xy", "b", "yx"), true},
		{pairs2("a", "x", "b", "yx"), true}, {pairs2("a", "x", "b", "X"), true}, {pairs2("a", "é", "b", "è", "c", "e"), true}, {numbered(80), true},
		// the From of a rule may be the beginning of that of another one
		{pairs2("a", "x", "ab", "y", "abc", "z"), true},
		{pairs2("a", "x", "b", "x"), false}, {pairs2("a", "x", "b", "y", "c", "x"), false}, {pairs2("a", "x", "b", "xy"), false}, {pairs2("a", "xy", "b", "x"), false}, {pairs2("a", "xyzabc", "b", "q", "c", "xyza"), false}, {pairs2("a", "e", "b", "e\u0301"), false},
		{nil, false}, {pairs2("a", ""), false}, {pairs2("", "a"), false}, {pairs2("a", "x", "a", "y"), false}, {pairs2("a", "x\xFF"), false}, {pairs2("\xFF", "x"), false}, {pairs2("abcdefg", "x"), false}, {pairs2("x", "abcdefg"), false}, {numbered(81), false},
	} {
		if translit.Reversible(c.t) != c.want {
			t.Errorf("%q: %v", c.t, !c.want)
		}
	}
}

// Each two rules are looked at.
func TestP7_1ReversibleEveryTwo(t *testing.T) {
	for i := range 80 {
		for _, j := range []int{0, 1, i - 1, i + 1, 40, 78, 79} {
			if j < 0 || j >= 80 || i == j {
				continue
			}
			for _, to := range []string{"10", strconv.Itoa(10000 + i), strconv.Itoa(10000+i) + "x"} {
				l := numbered(80)
				l[j].To = to
				if translit.Reversible(l) {
					t.Fatalf("%d and %d: %q", i, j, to)
				}
			}
		}
	}
}

// P7.1: transliterating

func TestP7_1ToExamples(t *testing.T) {
	overlaps := pairs2("a", "1", "ab", "2", "abc", "3", "bc", "4", "cd", "5")
	for _, c := range []struct {
		t       table
		s, want string
	}{
		{translit.Cyrillic(), "Толстой", "Tolstoj"}, {translit.Greek(), "ουρανος", "ouranos"},
		{translit.Cyrillic(), "Щи - ещё объём, подъезд!", "Ŝi - eŝë ob\"ëm, pod\"ezd!"}, {translit.Cyrillic(), "Юлия, Яна, мать", "Ûliâ, Âna, mat'"}, {translit.Cyrillic(), "ЪЬЁ", "ЪЬË"}, {translit.Cyrillic(), "Й й И\u0306", "J j I\u0306"}, {translit.Cyrillic(), "Ґанок Її", "Ґanok Її"}, {translit.Cyrillic(), "abc 1", "abc 1"},
		{translit.Greek(), "αγγελος", "angelos"}, {translit.Greek(), "αγγγκουο", "angnkouo"}, {translit.Greek(), "ψυχη φως θεος", "psychē phōs theos"}, {translit.Greek(), "Ουρανος ού", "Οyranos oύ"}, {translit.Greek(), "γκγγ", "nkng"},
		{overlaps, "", ""}, {overlaps, "a", "1"}, {overlaps, "ab", "2"}, {overlaps, "abc", "3"}, {overlaps, "abcd", "3d"}, {overlaps, "bcd", "4d"}, {overlaps, "cd", "5"}, {overlaps, "abbc", "24"}, {overlaps, "aabcb", "13b"}, {overlaps, "xaby", "x2y"}, {overlaps, "b", "b"}, {overlaps, "c", "c"},
		// the order of the rules does not matter
		{pairs2("ab", "2", "abc", "3", "a", "1"), "aababc", "123"}, {pairs2("abc", "3", "ab", "2", "a", "1"), "aababc", "123"},
		// a longer rule that does not fit to the end is not applied
		{pairs2("abc", "3", "a", "1"), "ab", "1b"}, {pairs2("abcdef", "6", "abc", "3"), "abcde", "3de"}, {pairs2("abcdef", "6", "abc", "3"), "abcdefabc", "63"},
		// what was written is not read again
		{pairs2("a", "b", "b", "c"), "ab", "bc"}, {pairs2("a", "aa"), "aaa", "aaaaaa"}, {pairs2("a", "b", "bb", "c"), "aa", "bb"}, {pairs2("a", "b"), "xax", "xbx"},
		// more bytes are not more characters, but equal beginnings are longer
		{pairs2("ж", "1", "жé", "2", "жéﬁ", "3"), "жéﬁжéfж", "32f1"}, {pairs2("e", "1", "e\u0301", "2"), "e\u0301ée", "2é1"}, {pairs2("é", "1"), "è\u00E9\u0119e", "è1ęe"},
		{pairs2("\uFF21", "A", "\u00A0", " "), "\uFF21\u00A0\uFF22", "A \uFF22"}, {pairs2("ﬁ", "fi"), "ﬁﬂ", "fiﬂ"}, {pairs2(" ", "  "), " a ", "  a  "},
		{nil, "a", ""}, {pairs2("a", ""), "a", ""}, {pairs2("", "a"), "b", ""}, {pairs2("a", "b", "a", "c"), "x", ""}, {pairs2("a", "b\xFF"), "x", ""}, {numbered(81), "x", ""}, {numbered(80), "x10079x10080", "x10079x10080"},
		{overlaps, "a\xFF", ""}, {overlaps, "\xC3", ""}, {overlaps, "a\n", ""}, {overlaps, "中a", ""}, {overlaps, "\uFFFD", ""}, {overlaps, "abc\xC3", ""},
	} {
		if got := translit.To(c.t, c.s); got != c.want {
			t.Errorf("%q, %+q: %+q, want %+q", c.t, c.s, got, c.want)
		}
	}
}

func TestP7_1BackExamples(t *testing.T) {
	for _, c := range []struct {
		t       table
		s, want string
	}{
		{translit.Cyrillic(), "Tolstoj", "Толстой"}, {translit.Cyrillic(), "Ŝi - ob\"ëm mat'", "Щи - объём мать"}, {translit.Cyrillic(), "Qwx Тол", "Qwx Тол"}, {translit.Cyrillic(), "e\u0308z\u030C", "е\u0308з\u030C"},
		// σ is ahead of ς, and ps is longer than p
		{translit.Greek(), "ouranos", "ουρανοσ"}, {translit.Greek(), "psychē", "ψυχη"}, {translit.Greek(), "ngnkng n", "γγγκγγ ν"}, {translit.Greek(), "thtphpchcou", "θτφπχcου"},
		// of several rules with the same To the first one counts
		{pairs2("a", "x", "b", "x"), "x", "a"}, {pairs2("b", "x", "a", "x"), "x", "b"}, {pairs2("abc", "x", "b", "x", "c", "y"), "xy", "abcc"}, {pairs2("a", "x", "bcd", "x"), "xx", "aa"}, {pairs2("q", "y", "c", "xy", "b", "xy", "a", "xy", "d", "x"), "xyx", "cd"},
		{pairs2("a", "1", "b", "12", "c", "123", "d", "23"), "112123231", "abcda"}, {pairs2("a", "123456", "b", "1"), "123456123455", "ab23455"},
		{pairs2("a", "b", "b", "a"), "ab", "ba"}, {pairs2("a", "b"), "ab", "aa"}, {pairs2("aa", "a"), "aa", "aaaa"}, {pairs2("a", "b"), "", ""},
		{nil, "a", ""}, {pairs2("a", ""), "a", ""}, {pairs2("a", "b", "a", "c"), "b", ""}, {pairs2("abcdefg", "b"), "b", ""}, {pairs2("a", "b"), "b\xFF", ""}, {pairs2("a", "b"), "b\n", ""}, {pairs2("a", "b"), "中", ""}, {numbered(81), "x", ""},
	} {
		if got := translit.Back(c.t, c.s); got != c.want {
			t.Errorf("%q, %+q: %+q, want %+q", c.t, c.s, got, c.want)
		}
	}
}

func TestP7_1CoversExamples(t *testing.T) {
	overlaps := pairs2("a", "1", "ab", "2", "cd", "5", "bb", "6")
	for _, c := range []struct {
		t    table
		s    string
		want bool
	}{
		{translit.Cyrillic(), "Толстой", true}, {translit.Cyrillic(), "Лев Толстой", false}, {translit.Cyrillic(), "Ъ", false}, {translit.Cyrillic(), "Ь", false}, {translit.Cyrillic(), "ъь", true}, {translit.Cyrillic(), "і", false}, {translit.Cyrillic(), "Tolstoj", false}, {translit.Cyrillic(), "и\u0306", false},
		{translit.Greek(), "ουρανος", true}, {translit.Greek(), "ουρανός", false}, {translit.Greek(), "Ουρανος", false},
		{overlaps, "", true}, {overlaps, "a", true}, {overlaps, "aabcd", true}, {overlaps, "acd", true}, {overlaps, "b", false}, {overlaps, "xa", false}, {overlaps, "ax", false}, {overlaps, "axa", false}, {overlaps, "c", false}, {overlaps, "ad", false},
		// a and bb would cover the string, but the longest rule is ab
		{overlaps, "abb", false}, {overlaps, "abbb", true},
		// a character that is replaced by itself is written by its rule
		{pairs2("a", "a"), "aaa", true}, {pairs2("a", "a"), "ab", false}, {pairs2("a", "b"), "b", false},
		{nil, "", false}, {nil, "a", false}, {pairs2("a", ""), "a", false}, {pairs2("a", ""), "", false}, {pairs2("a", "b", "a", "b"), "a", false}, {numbered(81), "10000", false}, {numbered(80), "10000", true},
		{overlaps, "a\xFF", false}, {overlaps, "\xFF", false}, {overlaps, "a\n", false}, {overlaps, "中", false}, {overlaps, "a\uFFFD", false},
	} {
		if translit.Covers(c.t, c.s) != c.want {
			t.Errorf("%q, %+q: %v", c.t, c.s, !c.want)
		}
	}
}

// P7.1: the two tables

func TestP7_1Cyrillic(t *testing.T) {
	got := translit.Cyrillic()
	if !slices.Equal(got, modelCyrillic()) || len(got) != 64 {
		t.Fatalf("%q", got)
	}
	for i, c := range []int{0x430, 0x431, 0x432, 0x433, 0x434, 0x435, 0x451, 0x436} {
		if got[i].From != string(rune(c)) || got[33+i].From != strings.ToUpper(string(rune(c))) {
			t.Errorf("%+q", got[i])
		}
	}
	for c := rune(0x410); c <= 0x44F; c++ {
		if translit.Covers(got, string(c)) == (c == 0x42A || c == 0x42C) {
			t.Errorf("%+q", c)
		}
	}
	for _, r := range got {
		if rep.Script(r.From) != rep.Cyrillic || rep.Count(r.From) != 1 || rep.Count(r.To) != 1 || rep.Script(r.To) != rep.Latin && r.To != "'" && r.To != "\"" {
			t.Errorf("%+q", r)
		}
	}
}

func TestP7_1Greek(t *testing.T) {
	got := translit.Greek()
	if !slices.Equal(sortedRules(got), sortedRules(modelGreek())) || len(got) != 28 {
		t.Fatalf("%q", got)
	}
	for i, c := range []rune{0x3B1, 0x3B2, 0x3B3, 0x3B4, 0x3B5, 0x3B6, 0x3B7, 0x3B8, 0x3B9, 0x3BA, 0x3BB, 0x3BC, 0x3BD, 0x3BE, 0x3BF, 0x3C0, 0x3C1, 0x3C3, 0x3C2, 0x3C4, 0x3C5, 0x3C6, 0x3C7, 0x3C8, 0x3C9} {
		if got[i].From != string(c) {
			t.Errorf("%d: %+q, want %+q", i, got[i].From, c)
		}
	}
	if !slices.Equal(got[25:], pairs2("\u03BF\u03C5", "ou", "\u03B3\u03B3", "ng", "\u03B3\u03BA", "nk")) {
		t.Errorf("%+q", got[25:])
	}
	for _, r := range got {
		if rep.Script(r.From) != rep.Greek || rep.Script(r.To) != rep.Latin {
			t.Errorf("%+q", r)
		}
	}
}

func sortedRules(t table) table {
	return slices.SortedFunc(slices.Values(t), func(a, b translit.Rule) int { return strings.Compare(a.From, b.From) })
}

// The tables are new ones in every call.
func TestP7_1OwnTables(t *testing.T) {
	for _, f := range []func() []translit.Rule{translit.Cyrillic, translit.Greek} {
		a, b := f(), f()
		clear(a)
		if !translit.Valid(b) || !translit.Valid(f()) || translit.Valid(a) {
			t.Error("two tables share their memory")
		}
	}
}

// P7.1: any arguments

func checkTable(t *testing.T, l table) bool {
	t.Helper()
	valid := modelValid(l)
	if translit.Valid(l) != valid {
		t.Fatalf("Valid(%+q) = %v", l, !valid)
	}
	if want := modelReversible(l); translit.Reversible(l) != want {
		t.Fatalf("Reversible(%+q) = %v", l, !want)
	}
	return valid
}

func checkString(t *testing.T, l table, s string) bool {
	t.Helper()
	if got, want := translit.To(l, s), modelTo(l, s); got != want {
		t.Fatalf("To(%+q, %+q) = %+q, want %+q", l, s, got, want)
	}
	if got, want := translit.Back(l, s), modelBack(l, s); got != want {
		t.Fatalf("Back(%+q, %+q) = %+q, want %+q", l, s, got, want)
	}
	covers := modelCovers(l, s)
	if translit.Covers(l, s) != covers {
		t.Fatalf("Covers(%+q, %+q) = %v", l, s, !covers)
	}
	return covers
}

func TestP7_1AnyTable(t *testing.T) {
	g := rand.New(rand.NewSource(71))
	valid, reversible := 0, 0
	for i := range 20000 {
		alphabet := anyAlphabet(g)
		l := anyTable(g, alphabet, []int{2, 5, 80}[i%3])
		if i%2 == 0 {
			l = anyReversible(g, alphabet, []int{2, 5, 80}[i%3])
		}
		l = anyFaulty(g, l)
		if checkTable(t, l) {
			valid++
		}
		if translit.Reversible(l) {
			reversible++
		}
	}
	if valid < 2000 || valid > 18000 || reversible < 1000 || reversible > 15000 {
		t.Error("the tables are too much alike:", valid, reversible)
	}
}

func TestP7_1AnyString(t *testing.T) {
	g := rand.New(rand.NewSource(72))
	covered, changed, differs := 0, 0, 0
	for i := range 20000 {
		alphabet := anyAlphabet(g)
		l := anyTable(g, alphabet, []int{3, 8, 80}[i%3])
		if i%20 == 0 {
			l = anyFaulty(g, l)
		}
		if len(l) == 0 {
			checkString(t, l, "a")
			continue
		}
		for _, s := range []string{anyString(g, l, alphabet, 8), anyCovered(g, l, 5), anyWord(g, alphabet, 12)} {
			if checkString(t, l, s) {
				covered++
			}
			if translit.To(l, s) != s {
				changed++
			}
			if translit.Back(l, translit.To(l, s)) != s {
				differs++
			}
		}
	}
	if covered < 5000 || covered > 40000 || changed < 30000 || differs < 10000 || differs > 55000 {
		t.Error("the strings are too much alike:", covered, changed, differs)
	}
}

func TestP7_1OrderOfRules(t *testing.T) {
	g := rand.New(rand.NewSource(73))
	for range 5000 {
		alphabet := anyAlphabet(g)
		l := anyTable(g, alphabet, 12)
		other := slices.Clone(l)
		g.Shuffle(len(other), func(i, j int) { other[i], other[j] = other[j], other[i] })
		s := anyString(g, l, alphabet, 8)
		if translit.To(l, s) != translit.To(other, s) || translit.Covers(l, s) != translit.Covers(other, s) || translit.Reversible(l) != translit.Reversible(other) {
			t.Fatalf("%+q and %+q: %+q, %+q", l, other, translit.To(l, s), translit.To(other, s))
		}
		checkString(t, other, s)
	}
}

func TestP7_1TheTablesWithAnyString(t *testing.T) {
	g := rand.New(rand.NewSource(74))
	for _, l := range []table{translit.Cyrillic(), translit.Greek()} {
		letters := []rune(cyrillicSmall + strings.ToUpper(cyrillicSmall) + greekSmall + "θφχψ \"'" + latinSmall + latinForGreek + "thph")
		for _, c := range rep.List() {
			checkString(t, l, string(rune(c)))
		}
		for range 5000 {
			checkString(t, l, anyWord(g, letters, 20))
			checkString(t, l, anyCovered(g, l, 20))
			checkString(t, l, translit.To(l, anyCovered(g, l, 20)))
		}
	}
}

func TestP7_1NotEncoded(t *testing.T) {
	for _, s := range notEncoded() {
		for _, full := range []string{s, "a" + s, s + "b", "a" + s + "b", s + s} {
			for _, l := range []table{pairs2("a", "b"), pairs2("a", full), pairs2(full, "a"), pairs2("b", "a", full, full)} {
				checkTable(t, l)
				checkString(t, l, full)
				checkString(t, l, "a")
				if translit.To(l, full) != "" || translit.Back(l, full) != "" || translit.Covers(l, full) {
					t.Errorf("%+q is taken for an encoded string", full)
				}
			}
		}
	}
}

// Long strings must not take the time of the square of their lengths.
func TestP7_1LongStrings(t *testing.T) {
	const n = 1 << 16
	l := pairs2("ab", "ж", "abc", "\uFF21-", "é", "e", "x", "y", "abcabd", "q")
	from, to := "abxéabcabdд", "жyeqд"
	if got := translit.To(l, strings.Repeat(from, n)); got != strings.Repeat(to, n) {
		t.Error("the transliteration of a long string")
	}
	if got := translit.Back(l, strings.Repeat(to, n)); got != strings.Repeat(from, n) {
		t.Error("back from a long string")
	}
	if translit.Covers(l, strings.Repeat(from, n)) || !translit.Covers(l, strings.Repeat("abxé", n)) || translit.Covers(l, strings.Repeat("abxé", n)+"a") || translit.Covers(l, strings.Repeat("abxé", n)+"\xFF") {
		t.Error("what a table covers of a long string")
	}
	if s := strings.Repeat("-", n); translit.To(l, s) != s || translit.Back(l, s) != s || translit.To(l, s+"\xC3") != "" {
		t.Error("a long string that stays as it is")
	}
	long := strings.Repeat("a", n)
	many := make(table, 0, 80)
	for i := range 80 {
		many = append(many, translit.Rule{From: long[i:], To: long})
	}
	for _, bad := range []table{many, pairs2("a", long), pairs2(long, "a"), slices.Repeat(pairs2("a", "b"), n), make(table, n)} {
		if translit.Valid(bad) || translit.Reversible(bad) || translit.To(bad, long) != "" || translit.Back(bad, long) != "" || translit.Covers(bad, long) {
			t.Error("a table that is too long")
		}
	}
}

// A table that is an argument must stay as it is, also behind its end.
func TestP7_1Arguments(t *testing.T) {
	l := pairs2("a", "xyz", "abc", "x", "ab", "xy", "q", "q", "r", "r")
	before := slices.Clone(l)
	part := l[:3]
	if translit.To(part, "aabcabq") != "xyzxxyq" || translit.Back(part, "xxyxyzq") != "abcabaq" || !translit.Covers(part, "aabab") || !translit.Valid(part) || translit.Reversible(part) || !slices.Equal(l, before) {
		t.Errorf("%q", l)
	}
}
