package editdist_test

import (
	"math/rand"
	"slices"
	"strings"
	"testing"

	"bookplate/api"
	"bookplate/editdist"
)

const (
	keep    = editdist.Keep
	replace = editdist.Replace
	remove  = editdist.Delete
	insert  = editdist.Insert
)

func TestP11_1Kinds(t *testing.T) {
	if keep != 1 || replace != 2 || remove != 3 || insert != 4 {
		t.Error(keep, replace, remove, insert)
	}
}

// P11.1: characters

func TestP11_1Chars(t *testing.T) {
	for s, want := range map[string][]int{
		"": nil, "cat": {'c', 'a', 't'}, "\x00": {0}, "\x7F": {0x7F}, "é": {0xE9}, "e\u0301": {'e', 0x301}, "Łódź": {0x141, 0xF3, 'd', 0x17A}, "中": {0x4E2D}, "\U0001F600": {0x1F600}, "\U0010FFFF": {0x10FFFF}, "\uFFFD": {0xFFFD}, "\uFEFF": {0xFEFF},
		"\x80": {0xFFFD}, "\xFF": {0xFFFD}, "a\xC3": {'a', 0xFFFD}, "\xC3a": {0xFFFD, 'a'}, "\xC3\xC3\xA9": {0xFFFD, 0xE9}, "\xE4\xB8": {0xFFFD, 0xFFFD}, "\xC0\x80": {0xFFFD, 0xFFFD}, "\xED\xA0\x80": {0xFFFD, 0xFFFD, 0xFFFD}, "\xF4\x90\x80\x80": {0xFFFD, 0xFFFD, 0xFFFD, 0xFFFD}, "\xA9\xA9é": {0xFFFD, 0xFFFD, 0xE9},
	} {
		if l := editdist.Chars(s); !slices.Equal(l, want) {
			t.Errorf("%+q: %v, want %v", s, l, want)
		}
	}
}

// anyString returns a string of bytes that often belong to encodings.
func anyString(g *rand.Rand, max int) string {
	s := ""
	for range g.Intn(max + 1) {
		s += anyOf(g, []string{"a", "b", "a", "b", "é", "\u0301", "中", "\U0001F600", "\uFFFD", "\x80", "\xC3", "\xE4\xB8", "\xF0\x9F", "\xFF", "\xA9", "\x00"})
	}
	return s
}

func TestP11_1CharsOfAnyStrings(t *testing.T) {
	g := rand.New(rand.NewSource(111))
	for range 20000 {
		s := anyString(g, 8)
		var want []int
		for _, c := range []rune(s) {
			want = append(want, int(c))
		}
		if l := editdist.Chars(s); !slices.Equal(l, want) {
			t.Fatalf("%+q: %v, want %v", s, l, want)
		}
	}
	if l := editdist.Chars(strings.Repeat("é", 1<<20)); len(l) != 1<<20 || l[1<<20-1] != 0xE9 {
		t.Error(len(l))
	}
}

// P11.1: distances

func TestP11_1KnownDistances(t *testing.T) {
	for _, c := range []struct {
		a, b string
		want int
	}{
		{"kitten", "sitting", 3}, {"cat", "cart", 1}, {"", "", 0}, {"", "abc", 3}, {"abc", "", 3}, {"a", "a", 0}, {"a", "b", 1}, {"flaw", "lawn", 2}, {"intention", "execution", 5}, {"ab", "ba", 2}, {"abc", "ca", 3}, {"abcd", "bcda", 2}, {"sunday", "saturday", 3}, {"aaaa", "bbbb", 4}, {"aaaa", "aa", 2}, {"abab", "baba", 2},
		// characters count, not bytes
		{"é", "e", 1}, {"é", "e\u0301", 2}, {"Łódź", "Lodz", 3}, {"中", "", 1}, {"\U0001F600", "a", 1}, {"\x80", "\xFF", 0}, {"\x80", "\uFFFD", 0}, {"\xC3", "é", 1}, {"\xE4\xB8", "中", 2}, {"A", "a", 1}, {" a", "a", 1}, {"\x00", "", 1},
	} {
		if d := editdist.Text(c.a, c.b); d != c.want {
			t.Errorf("%+q, %+q: the texts have the distance %d, want %d", c.a, c.b, d, c.want)
		}
		if d := editdist.Distance(editdist.Chars(c.a), editdist.Chars(c.b)); d != c.want {
			t.Errorf("%+q, %+q: the distance %d, want %d", c.a, c.b, d, c.want)
		}
	}
}

// checkDistances checks Distance and Within for two lists.
func checkDistances(t *testing.T, a, b []int, want int) {
	t.Helper()
	if d := editdist.Distance(a, b); d != want {
		t.Fatalf("%v, %v: the distance %d, want %d", a, b, d, want)
	}
	for k := -2; k <= max(len(a), len(b))+2; k++ {
		checkWithin(t, a, b, k, want)
	}
	for _, k := range []int{least, least + 1, -1 << 32, 1 << 31, 1 << 32, greatest - 1, greatest} {
		checkWithin(t, a, b, k, want)
	}
}

func checkWithin(t *testing.T, a, b []int, k, want int) {
	t.Helper()
	ok := want <= k
	if !ok {
		want = 0
	}
	if d, within := editdist.Within(a, b, k); d != want || within != ok {
		t.Fatalf("%v, %v within %d: %d, %v, want %d, %v", a, b, k, d, within, want, ok)
	}
}

func TestP11_1Distances(t *testing.T) {
	for _, l := range [][][]int{allLists([]int{0, 1}, 6), allLists([]int{-1, 0, greatest}, 4)} {
		for _, a := range l {
			for _, b := range l {
				checkDistances(t, a, b, modelDistance(a, b))
			}
		}
	}
	g := rand.New(rand.NewSource(112))
	for range 5000 {
		a, b := anyPair(g, 20)
		checkDistances(t, a, b, modelDistance(a, b))
	}
	checkDistances(t, nil, []int{}, 0)
	checkDistances(t, []int{}, []int{least}, 1)
}

func TestP11_1Texts(t *testing.T) {
	g := rand.New(rand.NewSource(113))
	for range 20000 {
		a, b := anyString(g, 8), anyString(g, 8)
		if d, want := editdist.Text(a, b), modelDistance(editdist.Chars(a), editdist.Chars(b)); d != want {
			t.Fatalf("%+q, %+q: %d, want %d", a, b, d, want)
		}
	}
}

// P11.1: scripts

func TestP11_1KnownScripts(t *testing.T) {
	for _, c := range []struct {
		a, b string
		want []editdist.Op
	}{
		{"cat", "cart", []editdist.Op{{keep, 0}, {keep, 0}, {insert, 'r'}, {keep, 0}}},
		{"", "", nil}, {"a", "a", []editdist.Op{{keep, 0}}}, {"a", "b", []editdist.Op{{replace, 'b'}}},
		{"", "ab", []editdist.Op{{insert, 'a'}, {insert, 'b'}}}, {"ab", "", []editdist.Op{{remove, 0}, {remove, 0}}},
		{"ab", "ba", []editdist.Op{{replace, 'b'}, {replace, 'a'}}},
		{"ab", "c", []editdist.Op{{replace, 'c'}, {remove, 0}}}, {"a", "bc", []editdist.Op{{replace, 'b'}, {insert, 'c'}}},
		{"aa", "a", []editdist.Op{{keep, 0}, {remove, 0}}}, {"a", "aa", []editdist.Op{{keep, 0}, {insert, 'a'}}},
		{"xa", "a", []editdist.Op{{remove, 0}, {keep, 0}}}, {"x", "yx", []editdist.Op{{insert, 'y'}, {keep, 0}}}, {"b", "ybb", []editdist.Op{{insert, 'y'}, {keep, 0}, {insert, 'b'}}},
		{"abc", "bcd", []editdist.Op{{remove, 0}, {keep, 0}, {keep, 0}, {insert, 'd'}}},
		{"bcd", "abc", []editdist.Op{{insert, 'a'}, {keep, 0}, {keep, 0}, {remove, 0}}},
		{"kitten", "sitting", []editdist.Op{{replace, 's'}, {keep, 0}, {keep, 0}, {keep, 0}, {replace, 'i'}, {keep, 0}, {insert, 'g'}}},
		{"\x00", "", []editdist.Op{{remove, 0}}}, {"", "\x00", []editdist.Op{{insert, 0}}}, {"a", "\x00", []editdist.Op{{replace, 0}}},
	} {
		if l := editdist.Script(editdist.Chars(c.a), editdist.Chars(c.b)); !slices.Equal(l, c.want) {
			t.Errorf("%+q, %+q: %v, want %v", c.a, c.b, l, c.want)
		}
	}
}

// Most of these lists have several scripts of the least cost.
func TestP11_1Scripts(t *testing.T) {
	check := func(a, b []int) {
		if l, want := editdist.Script(a, b), modelScript(a, b); !slices.Equal(l, want) {
			t.Fatalf("%v, %v: %v, want %v", a, b, l, want)
		}
	}
	for _, l := range [][][]int{allLists([]int{0, 1}, 7), allLists([]int{1, 2, 3}, 5)} {
		for _, a := range l {
			for _, b := range l {
				check(a, b)
			}
		}
	}
	g := rand.New(rand.NewSource(114))
	for range 20000 {
		check(anyPair(g, 25))
	}
}

// P11.1: performing and costs

func TestP11_1ApplyErrors(t *testing.T) {
	a := []int{5, 6}
	for i, c := range []struct {
		l    []editdist.Op
		want []int
		err  api.Errno
	}{
		{[]editdist.Op{{keep, 0}, {keep, 0}}, []int{5, 6}, api.OK}, {[]editdist.Op{{remove, 0}, {remove, 0}}, nil, api.OK}, {[]editdist.Op{{replace, 5}, {replace, 0}}, []int{5, 0}, api.OK},
		{[]editdist.Op{{insert, 0}, {keep, 0}, {insert, least}, {remove, 0}, {insert, greatest}}, []int{0, 5, least, greatest}, api.OK},
		// characters are left, or missing
		{nil, nil, api.ErrRange}, {[]editdist.Op{{keep, 0}}, nil, api.ErrRange}, {[]editdist.Op{{insert, 1}, {insert, 1}}, nil, api.ErrRange}, {[]editdist.Op{{keep, 0}, {insert, 6}}, nil, api.ErrRange},
		{[]editdist.Op{{keep, 0}, {keep, 0}, {keep, 0}}, nil, api.ErrRange}, {[]editdist.Op{{keep, 0}, {keep, 0}, {replace, 0}}, nil, api.ErrRange}, {[]editdist.Op{{keep, 0}, {keep, 0}, {remove, 0}}, nil, api.ErrRange},
		// wrong kinds and characters
		{[]editdist.Op{{0, 0}, {keep, 0}}, nil, api.ErrArg}, {[]editdist.Op{{keep, 0}, {5, 0}}, nil, api.ErrArg}, {[]editdist.Op{{-1, 0}}, nil, api.ErrArg}, {[]editdist.Op{{greatest, 0}, {keep, 0}}, nil, api.ErrArg}, {[]editdist.Op{{least, 0}}, nil, api.ErrArg},
		{[]editdist.Op{{keep, 5}, {keep, 0}}, nil, api.ErrArg}, {[]editdist.Op{{keep, 0}, {remove, 6}}, nil, api.ErrArg}, {[]editdist.Op{{keep, -1}, {keep, 0}}, nil, api.ErrArg},
		// ErrArg is ahead of ErrRange
		{[]editdist.Op{{keep, 0}, {keep, 0}, {keep, 0}, {0, 0}}, nil, api.ErrArg}, {[]editdist.Op{{remove, 1}}, nil, api.ErrArg}, {[]editdist.Op{{keep, 0}, {keep, 0}, {keep, 0}, {keep, 1}}, nil, api.ErrArg},
	} {
		if l, err := editdist.Apply(a, c.l); !slices.Equal(l, c.want) || err != c.err {
			t.Errorf("%d: %v, %v, want %v, %v", i, l, err, c.want, c.err)
		}
	}
	if l, err := editdist.Apply(nil, nil); len(l) != 0 || err != api.OK {
		t.Error(l, err)
	}
	if l, err := editdist.Apply(nil, []editdist.Op{{insert, 7}}); !slices.Equal(l, []int{7}) || err != api.OK {
		t.Error(l, err)
	}
}

func TestP11_1Apply(t *testing.T) {
	g := rand.New(rand.NewSource(115))
	seen := map[api.Errno]int{}
	for range 40000 {
		alphabet := anyOf(g, alphabets)
		a := anyList(g, alphabet, 8)
		l := anyScript(g, alphabet, len(a))
		if g.Intn(2) == 0 {
			l = spoil(g, l)
		}
		made, err := editdist.Apply(a, l)
		want, wantErr := modelApply(a, l)
		if !slices.Equal(made, want) || err != wantErr || err != api.OK && made != nil {
			t.Fatalf("%v, %v: %v, %v, want %v, %v", a, l, made, err, want, wantErr)
		}
		seen[err]++
	}
	if len(seen) != 3 || seen[api.OK] < 5000 || seen[api.ErrArg] < 5000 || seen[api.ErrRange] < 5000 {
		t.Error("the scripts are too much alike:", seen)
	}
}

func TestP11_1Cost(t *testing.T) {
	for i, c := range []struct {
		l    []editdist.Op
		want int
	}{
		{nil, 0}, {[]editdist.Op{{keep, 0}, {keep, 0}}, 0}, {[]editdist.Op{{keep, 0}, {replace, 1}, {remove, 0}, {insert, 2}}, 3},
		// any list counts, also one that is no script
		{[]editdist.Op{{keep, 7}}, 0}, {[]editdist.Op{{0, 0}, {5, 0}, {-1, 0}, {least, 3}, {greatest, keep}}, 5}, {[]editdist.Op{{remove, 9}, {insert, 0}}, 2},
	} {
		if n := editdist.Cost(c.l); n != c.want {
			t.Errorf("%d: %d, want %d", i, n, c.want)
		}
	}
	g := rand.New(rand.NewSource(116))
	for range 2000 {
		l := spoil(g, anyScript(g, []int{0, 1}, g.Intn(10)))
		other := slices.DeleteFunc(slices.Clone(l), func(o editdist.Op) bool { return o.Kind == 1 })
		if n := editdist.Cost(l); n != len(other) {
			t.Fatalf("%v: %d, want %d", l, n, len(other))
		}
	}
}

// P11.1: common subsequences

func TestP11_1KnownSubsequences(t *testing.T) {
	for _, c := range []struct{ a, b, want string }{
		{"kitten", "sitting", "ittn"}, {"", "", ""}, {"", "a", ""}, {"a", "", ""}, {"a", "a", "a"}, {"a", "b", ""}, {"abc", "abc", "abc"}, {"abcbdab", "bdcaba", "bdab"},
		// of several ones, the choice is that of the greater length, and if there is none, characters of the first list are left out
		{"ab", "ba", "b"}, {"ba", "ab", "a"}, {"abc", "cab", "ab"}, {"abc", "cba", "c"}, {"xab", "bax", "b"}, {"aabb", "bbaa", "bb"}, {"abx", "xab", "ab"},
	} {
		l := editdist.Subsequence(editdist.Chars(c.a), editdist.Chars(c.b))
		if !slices.Equal(l, editdist.Chars(c.want)) {
			t.Errorf("%q, %q: %v, want %q", c.a, c.b, l, c.want)
		}
	}
}

func TestP11_1Subsequences(t *testing.T) {
	check := func(a, b []int) {
		if l, want := editdist.Subsequence(a, b), modelSubsequence(a, b, modelLengths(a, b)); !slices.Equal(l, want) {
			t.Fatalf("%v, %v: %v, want %v", a, b, l, want)
		}
	}
	for _, l := range [][][]int{allLists([]int{0, 1}, 7), allLists([]int{1, 2, 3}, 5)} {
		for _, a := range l {
			for _, b := range l {
				check(a, b)
			}
		}
	}
	g := rand.New(rand.NewSource(117))
	for range 20000 {
		check(anyPair(g, 25))
	}
}
