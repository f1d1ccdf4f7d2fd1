package repertoire_test

import (
	"math/rand"
	"slices"
	"strings"
	"testing"

	rep "bookplate/repertoire"
)

// P4.2

func checkThereAndBack(t *testing.T, l []int) {
	t.Helper()
	s, ok := rep.Encode(l)
	if !ok {
		t.Fatalf("%v is not encoded", l)
	}
	if again, ok := rep.Decode(s); !ok || !slices.Equal(again, l) {
		t.Fatalf("%v becomes %v, %v", l, again, ok)
	}
}

func TestP4_2EncodeThenDecode(t *testing.T) {
	m := newModel()
	checkThereAndBack(t, nil)
	for _, a := range m.list {
		checkThereAndBack(t, []int{a})
		for _, b := range m.list {
			checkThereAndBack(t, []int{a, b})
		}
	}
	g := rand.New(rand.NewSource(20))
	for range 10000 {
		checkThereAndBack(t, m.anyList(g, 100))
	}
}

// A string that is no encoding of characters must not be read as that of others.
func TestP4_2DecodeThenEncode(t *testing.T) {
	m := newModel()
	g := rand.New(rand.NewSource(21))
	encoded := 0
	for range 30000 {
		s := m.anyString(g, 30)
		l, ok := rep.Decode(s)
		if !ok {
			continue
		}
		encoded++
		if again, ok := rep.Encode(l); !ok || again != s {
			t.Fatalf("%q becomes %q, %v", s, again, ok)
		}
	}
	if encoded < 5000 || encoded > 25000 {
		t.Error("the strings are too much alike:", encoded)
	}
}

// P4.3

func TestP4_3Concatenation(t *testing.T) {
	m := newModel()
	g := rand.New(rand.NewSource(30))
	for range 10000 {
		a, b := m.anyEncoded(g, 20), m.anyEncoded(g, 20)
		x, okA := rep.Decode(a)
		y, okB := rep.Decode(b)
		both, ok := rep.Decode(a + b)
		if !okA || !okB || !ok || !slices.Equal(both, slices.Concat(x, y)) {
			t.Fatalf("%q and %q: %v, %v", a, b, both, ok)
		}
		if rep.Count(a+b) != rep.Count(a)+rep.Count(b) {
			t.Fatalf("%q and %q: %d characters", a, b, rep.Count(a+b))
		}
	}
}

// Every two characters, as what is next to each other could be read as one character.
func TestP4_3EveryTwoCharacters(t *testing.T) {
	m := newModel()
	for _, a := range m.list {
		for _, b := range m.list {
			if l, ok := rep.Decode(m.codes[a] + m.codes[b]); !ok || !slices.Equal(l, []int{a, b}) {
				t.Fatalf("U+%04X and U+%04X: %v, %v", a, b, l, ok)
			}
		}
	}
}

func TestP4_3Division(t *testing.T) {
	m := newModel()
	g := rand.New(rand.NewSource(31))
	for range 3000 {
		s := m.anyEncoded(g, 20)
		whole, _ := rep.Decode(s)
		for at := range len(s) + 1 {
			x, okA := rep.Decode(s[:at])
			y, okB := rep.Decode(s[at:])
			between := at == len(s) || s[at]&0xC0 != 0x80
			if okA != between || okB != between {
				t.Fatalf("%q and %q: %v, %v", s[:at], s[at:], okA, okB)
			}
			if between && !slices.Equal(slices.Concat(x, y), whole) {
				t.Fatalf("%q and %q: %v, %v", s[:at], s[at:], x, y)
			}
		}
	}
}

func TestP4_3PartsOfCharacters(t *testing.T) {
	if _, ok := rep.Decode("\xC3" + "\xA9"); !ok {
		t.Error("both parts of a character together are not encoded")
	}
	for _, part := range []string{"\xC3", "\xA9", "\xEF", "\xBC", "\xA1", "\xEF\xBC", "\xBC\xA1"} {
		if _, ok := rep.Decode(part); ok {
			t.Errorf("%q is encoded", part)
		}
	}
}

// P4.4

func TestP4_4Cutting(t *testing.T) {
	m := newModel()
	g := rand.New(rand.NewSource(40))
	for range 3000 {
		s := m.anyEncoded(g, 20)
		count := rep.Count(s)
		for n := -1; n <= count+2; n++ {
			cut := rep.Cut(s, n)
			if !strings.HasPrefix(s, cut) || rep.Count(cut) != max(0, min(n, count)) {
				t.Fatalf("%q, %d: %q", s, n, cut)
			}
			if _, ok := rep.Decode(cut); !ok {
				t.Fatalf("%q, %d: %q is not encoded", s, n, cut)
			}
		}
		if rep.Cut(s, count) != s || rep.Cut(s, greatest) != s {
			t.Fatalf("%q is not whole", s)
		}
	}
}

func TestP4_4CuttingAgain(t *testing.T) {
	m := newModel()
	g := rand.New(rand.NewSource(41))
	for range 3000 {
		s := m.anyEncoded(g, 20)
		a, b := g.Intn(22), g.Intn(22)
		if x, y := rep.Cut(rep.Cut(s, a), b), rep.Cut(s, min(a, b)); x != y {
			t.Fatalf("%q, %d, %d: %q, %q", s, a, b, x, y)
		}
	}
}

// P4.5

func TestP4_5List(t *testing.T) {
	l := rep.List()
	if want := newModel().list; !slices.Equal(l, want) || len(l) != 536 {
		t.Errorf("%d characters: %v", len(l), l)
	}
	for i := range l {
		if i > 0 && l[i-1] >= l[i] {
			t.Errorf("U+%04X stands ahead of U+%04X", l[i-1], l[i])
		}
	}
}

func TestP4_5HasAndKind(t *testing.T) {
	listed := map[int]bool{}
	for _, c := range rep.List() {
		listed[c] = true
	}
	check := func(c int) {
		script, kind := rep.Class(c)
		if listed[c] != rep.Has(c) || rep.Has(c) != (kind != 0) || kind == 0 && script != 0 {
			t.Errorf("%d: %v, %v, %d, %d", c, listed[c], rep.Has(c), script, kind)
		}
		if (script != rep.None) != (kind == rep.Letter) || script == rep.Mixed {
			t.Errorf("%d: the script %d, the kind %d", c, script, kind)
		}
	}
	for c := -0x20000; c <= 0x120000; c++ {
		check(c)
	}
	for bit := range 64 {
		for c := -200; c <= 200; c++ {
			check(c + 1<<bit)
		}
	}
}
