package editdist_test

import (
	"math/rand"
	"slices"
	"testing"

	"bookplate/api"
	"bookplate/editdist"
)

// row returns n characters from one on, each one greater than the one ahead.
func row(from, n int) []int {
	l := make([]int, n)
	for i := range l {
		l[i] = from + i
	}
	return l
}

// Lists without common characters are as far from each other as they can be; the lengths are around those at which parts of the work are kept.
func TestP11_1NothingInCommon(t *testing.T) {
	for _, c := range [][2]int{{1, 255}, {255, 255}, {256, 256}, {257, 257}, {256, 3}, {0, 257}, {257, 0}, {511, 511}, {512, 512}, {513, 513}, {600, 513}, {400, 769}} {
		a, b := row(0, c[0]), row(-1000, c[1])
		if d := editdist.Distance(a, b); d != max(c[0], c[1]) {
			t.Errorf("%v: the distance %d", c, d)
		}
		checkWithin(t, a, b, max(c[0], c[1])-1, max(c[0], c[1]))
		var want []editdist.Op
		for i := range max(c[0], c[1]) {
			switch {
			case i >= c[1]:
				want = append(want, editdist.Op{Kind: remove})
			case i >= c[0]:
				want = append(want, editdist.Op{Kind: insert, C: b[i]})
			default:
				want = append(want, editdist.Op{Kind: replace, C: b[i]})
			}
		}
		if l := editdist.Script(a, b); !slices.Equal(l, want) {
			t.Errorf("%v: a script of %d operations, want %d", c, len(l), len(want))
		}
		if l := editdist.Subsequence(a, b); len(l) != 0 {
			t.Errorf("%v: the common subsequence %v", c, l)
		}
	}
}

func TestP11_1LongLists(t *testing.T) {
	g := rand.New(rand.NewSource(125))
	for _, c := range []struct{ letters, n, m int }{{2, 1500, 1500}, {3, 1000, 1400}, {4, 1400, 900}, {26, 700, 700}, {1000, 600, 600}, {5, 50, 1500}, {5, 1500, 50}} {
		a, b := make([]int, c.n), make([]int, c.m)
		for _, l := range [][]int{a, b} {
			for i := range l {
				l[i] = g.Intn(c.letters)
			}
		}
		want := modelDistance(a, b)
		if d := editdist.Distance(a, b); d != want {
			t.Errorf("%v: the distance %d, want %d", c, d, want)
		}
		for _, k := range []int{want / 2, want - 1, want, want + 1, 2 * want} {
			checkWithin(t, a, b, k, want)
		}
		if !slices.Equal(editdist.Script(a, b), modelScript(a, b)) {
			t.Errorf("%v: another script", c)
		}
		if !slices.Equal(editdist.Subsequence(a, b), modelSubsequence(a, b, modelLengths(a, b))) {
			t.Errorf("%v: another common subsequence", c)
		}
	}
}

// Lists of this length have so many pairs of characters that to look at all of them would take hours.
func TestP11_1VeryLongLists(t *testing.T) {
	const n = 1 << 21
	g := rand.New(rand.NewSource(126))
	a := make([]int, n)
	for i := range a {
		a[i] = g.Intn(4)
	}
	b := slices.Concat(a[7:n/2], []int{9, 9}, a[n/2:n-3], []int{9})
	const want = 7 + 2 + 3
	for _, k := range []int{0, 5, want - 1, want, want + 1, 40} {
		checkWithinLong(t, a, b, k, want)
	}
	if d, ok := editdist.Within(a, reversed(a), 100); d != 0 || ok {
		t.Errorf("reversed: %d, %v", d, ok)
	}
	if d, ok := editdist.Within(a, a[:n-101], 100); d != 0 || ok {
		t.Errorf("shortened: %d, %v", d, ok)
	}
	if d, ok := editdist.Within(make([]int, n), make([]int, n-100), 100); d != 100 || !ok {
		t.Errorf("all the same: %d, %v", d, ok)
	}
	if d := editdist.Distance(a, b); d != want {
		t.Errorf("the distance %d, want %d", d, want)
	}
	l := editdist.Script(a, b)
	if made, err := editdist.Apply(a, l); err != api.OK || !slices.Equal(made, b) || editdist.Cost(l) != want {
		t.Errorf("a script of %d operations, which costs %d: %v", len(l), editdist.Cost(l), err)
	}
	if kept := editdist.Subsequence(a, b); len(kept) != n-10 || !isPart(kept, a) || !isPart(kept, b) {
		t.Errorf("the common subsequence has %d characters", len(kept))
	}
}

func checkWithinLong(t *testing.T, a, b []int, k, want int) {
	t.Helper()
	d, ok := editdist.Within(a, b, k)
	if ok != (want <= k) || ok && d != want || !ok && d != 0 {
		t.Errorf("lists of %d and %d characters within %d: %d, %v", len(a), len(b), k, d, ok)
	}
}

// A short list and a very long one take no more than all pairs of their characters.
func TestP11_1ShortAndLong(t *testing.T) {
	const n = 1 << 18
	long := row(0, n)
	for _, c := range []struct {
		short  []int
		common int
	}{{nil, 0}, {[]int{n / 2}, 1}, {[]int{-1}, 0}, {[]int{0, -1, 5, n - 1}, 3}} {
		replaced := editdist.Distance(c.short, long)
		if back := editdist.Distance(long, c.short); replaced != n-c.common || back != replaced {
			t.Errorf("%v: %d, and %d back", c.short, replaced, back)
		}
		for _, k := range []int{n - c.common - 1, n - c.common, n, greatest} {
			checkWithinLong(t, c.short, long, k, replaced)
			checkWithinLong(t, long, c.short, k, replaced)
		}
		if l := editdist.Script(c.short, long); editdist.Cost(l) != n-c.common {
			t.Errorf("%v: the script costs %d", c.short, editdist.Cost(l))
		}
		if l := editdist.Script(long, c.short); editdist.Cost(l) != n-c.common {
			t.Errorf("%v: the script from the long list costs %d", c.short, editdist.Cost(l))
		}
		if a, b := editdist.Subsequence(c.short, long), editdist.Subsequence(long, c.short); len(a) != c.common || !slices.Equal(a, b) {
			t.Errorf("%v: the common subsequences %v and %v", c.short, a, b)
		}
	}
}

// spare returns a list with room behind it, in which nothing may be written.
func spare(l []int) []int {
	return append(make([]int, 0, 2*len(l)+8), l...)
}

// untouched reports whether nothing was written into a list or behind it.
func untouched(l, before []int) bool {
	room := l[len(l):cap(l)]
	return slices.Equal(l, before) && slices.Max(append(room[:len(room):len(room)], 0)) == 0 && slices.Min(append(room[:len(room):len(room)], 0)) == 0
}

func TestP11_1Memory(t *testing.T) {
	g := rand.New(rand.NewSource(127))
	for range 2000 {
		x, y := anyPair(g, 12)
		a, b := spare(x), spare(y)
		script := editdist.Script(a, b)
		before := slices.Clone(script)
		made, _ := editdist.Apply(a, script)
		common := editdist.Subsequence(a, b)
		editdist.Distance(a, b)
		editdist.Within(a, b, 3)
		editdist.Cost(script)
		for _, l := range [][]int{made, common} {
			for i := range l {
				l[i]++
			}
			_ = append(l, 1)
		}
		if !untouched(a, x) || !untouched(b, y) || !slices.Equal(script, before) {
			t.Fatalf("%v, %v became %v, %v", x, y, a, b)
		}
		for i := range script {
			script[i] = editdist.Op{}
		}
		if again := editdist.Script(a, b); !slices.Equal(again, before) {
			t.Fatalf("%v, %v: %v, and then %v", x, y, before, again)
		}
	}
}
