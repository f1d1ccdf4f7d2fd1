package wire_test

import (
	"bytes"
	"math/rand"
	"slices"
	"strings"
	"testing"

	"bookplate/api"
	"bookplate/wire"
)

// P1.1: what the functions that append return.

func TestP1_1IntEncodings(t *testing.T) {
	for _, c := range []struct {
		n    int
		want string
	}{
		{0, "\x00"}, {-1, "\x01"}, {1, "\x02"}, {-2, "\x03"}, {63, "\x7e"}, {-64, "\x7f"},
		{64, "\x81\x00"}, {-65, "\x81\x01"}, {8191, "\xff\x7e"}, {-8192, "\xff\x7f"}, {8192, "\x81\x80\x00"},
		{greatest, "\x81\xff\xff\xff\xff\xff\xff\xff\xff\x7e"}, {least, "\x81\xff\xff\xff\xff\xff\xff\xff\xff\x7f"},
	} {
		if b := wire.Int(nil, c.n); string(b) != c.want {
			t.Errorf("Int(%d) = %x, want %x", c.n, b, c.want)
		}
	}
	for _, n := range edges() {
		if b := wire.Int(nil, n); !bytes.Equal(b, modelInt(n)) {
			t.Errorf("Int(%d) = %x, want %x", n, b, modelInt(n))
		}
	}
}

func TestP1_1OtherEncodings(t *testing.T) {
	long := strings.Repeat("x", 64)
	for _, c := range []struct {
		name string
		got  []byte
		want string
	}{
		{"false", wire.Bool(nil, false), "\x00"},
		{"true", wire.Bool(nil, true), "\x02"},
		{"empty text", wire.Text(nil, ""), "\x00"},
		{"ab", wire.Text(nil, "ab"), "\x04ab"},
		{"bytes of no character", wire.Text(nil, "\xff\x00"), "\x04\xff\x00"},
		{"64 bytes", wire.Text(nil, long), "\x81\x00" + long},
		{"no integers", wire.Ints(nil, nil), "\x00"},
		{"empty integers", wire.Ints(nil, []int{}), "\x00"},
		{"integers", wire.Ints(nil, []int{1, -2, 64}), "\x06\x02\x03\x81\x00"},
		{"least and greatest", wire.Ints(nil, []int{least, greatest}), "\x04\x81\xff\xff\xff\xff\xff\xff\xff\xff\x7f\x81\xff\xff\xff\xff\xff\xff\xff\xff\x7e"},
		{"64 integers", wire.Ints(nil, make([]int, 64)), "\x81\x00" + strings.Repeat("\x00", 64)},
		{"no texts", wire.Texts(nil, nil), "\x00"},
		{"empty texts", wire.Texts(nil, []string{}), "\x00"},
		{"texts", wire.Texts(nil, []string{"", "ab", ""}), "\x06\x00\x04ab\x00"},
	} {
		if string(c.got) != c.want {
			t.Errorf("%s: %x, want %x", c.name, c.got, c.want)
		}
	}
}

func TestP1_1Append(t *testing.T) {
	roomy := append(make([]byte, 0, 100), "xyz"...)
	for _, b := range [][]byte{nil, {}, []byte("xyz"), roomy} {
		before := string(b)
		// Results may share the capacity of b, so each one is compared before the next one is made.
		check := func(name string, got, want []byte) {
			if string(got) != before+string(want) || string(b) != before {
				t.Errorf("%s behind %q: %x", name, before, got)
			}
		}
		check("Int", wire.Int(b, -65), modelInt(-65))
		check("Bool", wire.Bool(b, true), modelInt(1))
		check("Text", wire.Text(b, "ab"), modelText("ab"))
		check("Ints", wire.Ints(b, []int{7, -9}), modelInts([]int{7, -9}))
		check("Texts", wire.Texts(b, []string{"", "c"}), modelTexts([]string{"", "c"}))
		check("two values", wire.Texts(wire.Ints(b, []int{3}), []string{"d"}), []byte("\x02\x06\x02\x02d"))
	}
}

// P1.1: what readers return.

func TestP1_1IntLimits(t *testing.T) {
	for _, c := range []struct {
		n, lo, hi int
		ok        bool
	}{
		{5, 5, 5, true}, {5, 4, 6, true}, {5, 6, 9, false}, {5, 0, 4, false}, {5, 6, 4, false}, {5, 9, 0, false},
		{-5, -5, -5, true}, {-5, -4, 9, false}, {-5, -9, -6, false}, {0, 0, 0, true}, {0, 1, -1, false},
		{least, least, greatest, true}, {least, least + 1, greatest, false}, {least, least, least, true},
		{greatest, least, greatest, true}, {greatest, least, greatest - 1, false}, {greatest, greatest, greatest, true},
	} {
		r := wire.From(modelInt(c.n))
		if n := r.Int(c.lo, c.hi); (r.Done() == api.OK) != c.ok || c.ok && n != c.n || !c.ok && n != 0 {
			t.Errorf("%d from %d to %d: %d, %v", c.n, c.lo, c.hi, n, r.Done())
		}
	}
}

func TestP1_1TextLimits(t *testing.T) {
	for _, c := range []struct {
		b    string
		max  int
		want string
		ok   bool
	}{
		{"\x00", 0, "", true}, {"\x00", greatest, "", true}, {"\x00", -1, "", false}, {"\x00", least, "", false},
		{"\x04ab", 2, "ab", true}, {"\x04ab", greatest, "ab", true}, {"\x04ab", 1, "", false}, {"\x04ab", 0, "", false}, {"\x04ab", -1, "", false},
		{"\x04a", 9, "", false}, {"\x04", 9, "", false}, {"", 9, "", false}, {"\x01", 9, "", false}, {"\x03ab", 9, "", false},
		{"\x80\x04ab", 9, "", false}, {"\x81\xff\xff\xff\xff\xff\xff\xff\xff\x7eab", greatest, "", false}, {"\x04\xff\x00", 2, "\xff\x00", true},
	} {
		r := wire.From([]byte(c.b))
		s := r.Text(c.max)
		if s != c.want || (r.Done() == api.OK) != c.ok || !c.ok && r.Rest() != len(c.b) {
			t.Errorf("%x at most %d: %q, %v, %d", c.b, c.max, s, r.Done(), r.Rest())
		}
	}
}

func TestP1_1BoolBytes(t *testing.T) {
	for c := range 256 {
		r := wire.From([]byte{byte(c)})
		v := r.Bool()
		if ok := c == 0 || c == 2; v != (c == 2) || (r.Done() == api.OK) != ok || ok != (r.Rest() == 0) {
			t.Errorf("%x: %v, %v, %d", c, v, r.Done(), r.Rest())
		}
	}
}

func TestP1_1IntsLimits(t *testing.T) {
	for _, c := range []struct {
		b           string
		max, lo, hi int
		want        []int
		ok          bool
	}{
		{"\x00", 0, 0, 0, nil, true}, {"\x00", 0, 1, 0, nil, true}, {"\x00", -1, 0, 0, nil, false}, {"\x00", least, 0, 0, nil, false},
		{"\x06\x06\x08\x0a", 3, 3, 5, []int{3, 4, 5}, true}, {"\x06\x06\x08\x0a", 2, 3, 5, nil, false},
		{"\x06\x06\x08\x0a", 3, 4, 5, nil, false}, {"\x06\x06\x08\x0a", 3, 3, 4, nil, false}, {"\x06\x06\x08\x0a", 3, 5, 3, nil, false},
		{"\x06\x06\x08", 3, 3, 5, nil, false}, {"\x06\x06\x08\x80", 3, 0, 5, nil, false}, {"\x06\x80\x06\x08\x0a", 3, 0, 5, nil, false},
		{"\x05\x06\x08\x0a", 3, 3, 5, nil, false}, {"\x80\x00", 3, 0, 5, nil, false}, {"", 3, 0, 5, nil, false},
		{"\x81\xff\xff\xff\xff\xff\xff\xff\xff\x7e\x00\x00", greatest, least, greatest, nil, false},
		{"\x81\xff\xff\xff\xff\xff\xff\xff\xff\x7f\x00\x00", greatest, least, greatest, nil, false},
		{"\x04\x81\xff\xff\xff\xff\xff\xff\xff\xff\x7f\x00", 2, least, 0, []int{least, 0}, true},
	} {
		r := wire.From([]byte(c.b))
		l := r.Ints(c.max, c.lo, c.hi)
		if !slices.Equal(l, c.want) || (r.Done() == api.OK) != c.ok || !c.ok && r.Rest() != len(c.b) {
			t.Errorf("%x at most %d from %d to %d: %v, %v, %d", c.b, c.max, c.lo, c.hi, l, r.Done(), r.Rest())
		}
	}
}

func TestP1_1TextsLimits(t *testing.T) {
	for _, c := range []struct {
		b         string
		max, long int
		want      []string
		ok        bool
	}{
		{"\x00", 0, 0, nil, true}, {"\x00", 0, -1, nil, true}, {"\x00", -1, 0, nil, false},
		{"\x04\x00\x04ab", 2, 2, []string{"", "ab"}, true}, {"\x04\x00\x04ab", 1, 2, nil, false}, {"\x04\x00\x04ab", 2, 1, nil, false},
		{"\x04\x00\x04ab", 2, -1, nil, false}, {"\x04\x00\x04ab", greatest, greatest, []string{"", "ab"}, true},
		{"\x04\x00\x04a", 2, 2, nil, false}, {"\x04\x00", 2, 2, nil, false}, {"\x04\x00\x01", 2, 2, nil, false}, {"\x03", 2, 2, nil, false},
		{"\x80\x00", 2, 2, nil, false}, {"", 2, 2, nil, false},
		{"\x81\xff\xff\xff\xff\xff\xff\xff\xff\x7e\x00\x00", greatest, greatest, nil, false},
	} {
		r := wire.From([]byte(c.b))
		l := r.Texts(c.max, c.long)
		if !slices.Equal(l, c.want) || (r.Done() == api.OK) != c.ok || !c.ok && r.Rest() != len(c.b) {
			t.Errorf("%x at most %d of %d: %q, %v, %d", c.b, c.max, c.long, l, r.Done(), r.Rest())
		}
	}
}

func TestP1_1RestAndDone(t *testing.T) {
	r := wire.From([]byte("\x02\x04ab\x00"))
	steps := []struct {
		read func()
		rest int
		done api.Errno
	}{
		{func() {}, 5, api.ErrForm},
		{func() { r.Int(0, 1) }, 4, api.ErrForm},
		{func() { r.Text(2) }, 1, api.ErrForm},
		{func() { r.Bool() }, 0, api.OK},
		{func() { r.Rest(); r.Done() }, 0, api.OK},
		{func() { r.Bool() }, 0, api.ErrForm}, // a failure, although nothing is left
	}
	for i, s := range steps {
		if s.read(); r.Rest() != s.rest || r.Done() != s.done {
			t.Errorf("step %d: %d, %v", i, r.Rest(), r.Done())
		}
	}
	for _, r := range []*wire.Reader{wire.From(nil), wire.From([]byte{}), new(wire.Reader)} {
		if r.Rest() != 0 || r.Done() != api.OK || r.Int(0, 9) != 0 || r.Done() != api.ErrForm {
			t.Error("reader of nothing")
		}
	}
}

func TestP1_1NilReader(t *testing.T) {
	var r *wire.Reader
	if r.Int(1, 9) != 0 || r.Bool() || r.Text(9) != "" || len(r.Ints(9, 0, 9)) != 0 || len(r.Texts(9, 9)) != 0 {
		t.Error("a value from a nil reader")
	}
	if r.Rest() != 0 || r.Done() != api.ErrState {
		t.Error(r.Rest(), r.Done())
	}
}

// modelStep lets the reader and the model read the same thing, and returns the size by the model (and whether both agree).
func modelStep(g *rand.Rand, r *wire.Reader, b []byte) (size int, ok, same bool) {
	limit := func() int { return []int{least, -1, 0, 1, 2, 3, 9, 1000, greatest}[g.Intn(9)] }
	lo, hi, max := limit(), limit(), limit()
	switch g.Intn(5) {
	case 0:
		n, size, ok := modelReadInt(b, lo, hi)
		return size, ok, r.Int(lo, hi) == n
	case 1:
		n, size, ok := modelReadInt(b, 0, 1)
		return size, ok, r.Bool() == (n == 1)
	case 2:
		s, size, ok := modelReadText(b, max)
		return size, ok, r.Text(max) == s
	case 3:
		l, size, ok := modelReadInts(b, max, lo, hi)
		return size, ok, slices.Equal(r.Ints(max, lo, hi), l)
	}
	l, size, ok := modelReadTexts(b, max, hi)
	return size, ok, slices.Equal(r.Texts(max, hi), l)
}

func TestP1_1AnyBytesAndCalls(t *testing.T) {
	g := rand.New(rand.NewSource(1))
	for range 100000 {
		b := anyBytes(g)
		r := wire.From(b)
		place, done := 0, api.OK
		for step := range 5 {
			size, ok, same := modelStep(g, r, b[place:])
			place += size
			if !same || r.Rest() != len(b)-place {
				t.Fatalf("%x, step %d: rest %d, want %d", b, step, r.Rest(), len(b)-place)
			}
			if !ok {
				done = api.ErrForm
				break
			}
		}
		if done == api.OK && place < len(b) {
			done = api.ErrForm
		}
		if r.Done() != done {
			t.Fatalf("%x: %v, want %v", b, r.Done(), done)
		}
	}
}

// P1.2

func TestP1_2RoundTripOfEdges(t *testing.T) {
	l := edges()
	var b []byte
	for _, n := range l {
		b = wire.Int(b, n)
	}
	b = wire.Ints(b, l)
	r := wire.From(append(b, 0x80))
	for _, n := range l {
		if m := r.Int(n, n); m != n {
			t.Fatalf("%d: %d", n, m)
		}
	}
	if got := r.Ints(len(l), least, greatest); !slices.Equal(got, l) || r.Rest() != 1 {
		t.Error(got, r.Rest())
	}
}

// anyValue appends a value to b, and returns a function that tells whether a reader reads the same value.
func anyValue(g *rand.Rand, b []byte) ([]byte, func(r *wire.Reader) bool) {
	n, s := anyInt(g), anyText(g, 70)
	var ints []int
	var texts []string
	for range g.Intn(70) {
		ints, texts = append(ints, anyInt(g)), append(texts, anyText(g, 3))
	}
	switch g.Intn(5) {
	case 0:
		return wire.Int(b, n), func(r *wire.Reader) bool { return r.Int(least, greatest) == n }
	case 1:
		return wire.Bool(b, n > 0), func(r *wire.Reader) bool { return r.Bool() == (n > 0) }
	case 2:
		return wire.Text(b, s), func(r *wire.Reader) bool { return r.Text(len(s)) == s }
	case 3:
		return wire.Ints(b, ints), func(r *wire.Reader) bool { return slices.Equal(r.Ints(len(ints), least, greatest), ints) }
	}
	return wire.Texts(b, texts), func(r *wire.Reader) bool { return slices.Equal(r.Texts(len(texts), 3), texts) }
}

func TestP1_2RoundTripOfMixedValues(t *testing.T) {
	g := rand.New(rand.NewSource(2))
	for range 3000 {
		var b []byte
		var checks []func(r *wire.Reader) bool
		for range g.Intn(6) {
			var check func(r *wire.Reader) bool
			b, check = anyValue(g, b)
			checks = append(checks, check)
		}
		more := anyBytes(g)
		r := wire.From(append(b, more...))
		for i, check := range checks {
			if !check(r) {
				t.Fatalf("value %d of %x", i, b)
			}
		}
		if r.Rest() != len(more) || (r.Done() == api.OK) != (len(more) == 0) {
			t.Fatalf("rest %d, want %d", r.Rest(), len(more))
		}
	}
}

// P1.3

func TestP1_3WhatIsReadIsCanonical(t *testing.T) {
	check := func(b []byte) {
		for _, k := range kinds() {
			r := wire.From(b)
			again := k.again(r)
			if r.Done() == api.OK && !bytes.Equal(again, b) {
				t.Fatalf("%s: %x is read as %x", k.name, b, again)
			}
		}
	}
	for x := range 256 {
		check([]byte{byte(x)})
		for y := range 256 {
			check([]byte{byte(x), byte(y)})
			for _, z := range []byte{0, 1, 2, 127, 128, 129, 255} {
				check([]byte{byte(x), byte(y), z})
			}
		}
	}
	g := rand.New(rand.NewSource(3))
	for range 100000 {
		check(anyBytes(g))
	}
}

func TestP1_3NoEncodings(t *testing.T) {
	for _, s := range []string{
		"", "\x80", "\xff", "\x80\x00", "\x80\x01", "\x80\x7f", "\x80\x81\x00", "\x80\x80\x01", "\x81", "\x81\x80", "\xff\xff",
		"\x82\x80\x80\x80\x80\x80\x80\x80\x80\x00", "\xff\xff\xff\xff\xff\xff\xff\xff\xff\x7f", "\x83\xff\xff\xff\xff\xff\xff\xff\xff\x7f",
		"\x81\x80\x80\x80\x80\x80\x80\x80\x80\x80\x00", "\x80\x81\xff\xff\xff\xff\xff\xff\xff\xff\x7f", strings.Repeat("\xff", 40) + "\x00",
	} {
		for _, k := range kinds() {
			r := wire.From([]byte(s))
			if k.again(r); r.Done() != api.ErrForm || r.Rest() != len(s) {
				t.Errorf("%s of %x: %v, %d", k.name, s, r.Done(), r.Rest())
			}
			r = wire.From([]byte("\x02" + s)) // as an element of a list
			if l := r.Ints(9, least, greatest); len(l) != 0 || r.Done() != api.ErrForm || r.Rest() != len(s)+1 {
				t.Errorf("element %x: %v", s, l)
			}
		}
	}
}

func TestP1_3ProperPrefixes(t *testing.T) {
	long := strings.Repeat("x", 70)
	encodings := map[string][][]byte{
		"Bool":  {wire.Bool(nil, true), wire.Bool(nil, false)},
		"Text":  {wire.Text(nil, ""), wire.Text(nil, "ab"), wire.Text(nil, "\x00\x00"), wire.Text(nil, long)},
		"Ints":  {wire.Ints(nil, nil), wire.Ints(nil, []int{1}), wire.Ints(nil, []int{0, least, 64, greatest}), wire.Ints(nil, make([]int, 70))},
		"Texts": {wire.Texts(nil, nil), wire.Texts(nil, []string{""}), wire.Texts(nil, []string{"", "ab", long, ""}), wire.Texts(nil, make([]string, 70))},
	}
	for _, n := range edges() {
		encodings["Int"] = append(encodings["Int"], wire.Int(nil, n))
	}
	for _, k := range kinds() {
		for _, b := range encodings[k.name] {
			for size := range b {
				r := wire.From(b[:size])
				if k.again(r); r.Done() != api.ErrForm || r.Rest() != size {
					t.Errorf("%s: prefix %x of %x is an encoding", k.name, b[:size], b)
				}
			}
			if r := wire.From(b); !bytes.Equal(k.again(r), b) || r.Done() != api.OK {
				t.Errorf("%s: %x is no encoding", k.name, b)
			}
		}
	}
}

// P1.4

// manyBeginnings begins with the encodings of 2, of "\x02\x04", of 1 and 2, and of "\x04" and "\x02\x02".
const manyBeginnings = "\x04\x02\x04\x04\x02\x02\x00"

func TestP1_4NothingBehindAFailure(t *testing.T) {
	failures := []struct {
		name string
		fail func(r *wire.Reader) bool // whether the result is a zero value
	}{
		{"Int above", func(r *wire.Reader) bool { return r.Int(0, 1) == 0 }},
		{"Int below", func(r *wire.Reader) bool { return r.Int(3, 9) == 0 }},
		{"Bool", func(r *wire.Reader) bool { return !r.Bool() }},
		{"Text too long", func(r *wire.Reader) bool { return r.Text(1) == "" }},
		{"Ints too many", func(r *wire.Reader) bool { return len(r.Ints(1, 0, 9)) == 0 }},
		{"Ints second element", func(r *wire.Reader) bool { return len(r.Ints(2, 0, 1)) == 0 }},
		{"Texts too many", func(r *wire.Reader) bool { return len(r.Texts(1, 9)) == 0 }},
		{"Texts second element", func(r *wire.Reader) bool { return len(r.Texts(2, 1)) == 0 }},
	}
	b := []byte(manyBeginnings)
	for _, f := range failures {
		r := wire.From(append([]byte{2}, b...))
		if r.Int(1, 1) != 1 {
			t.Fatal(f.name)
		}
		if !f.fail(r) || r.Rest() != len(b) || r.Done() != api.ErrForm {
			t.Errorf("%s: no failure, or the place changed: %d", f.name, r.Rest())
		}
		if r.Int(least, greatest) != 0 || r.Bool() || r.Text(9) != "" || len(r.Ints(9, 0, 9)) != 0 || len(r.Texts(9, 9)) != 0 {
			t.Errorf("%s: a value behind the failure", f.name)
		}
		if r.Rest() != len(b) || r.Done() != api.ErrForm {
			t.Errorf("%s: the place changed behind the failure: %d", f.name, r.Rest())
		}
	}
}

func TestP1_4BytesOfTheFailureCanBeRead(t *testing.T) {
	b := []byte(manyBeginnings)
	if n := wire.From(b).Int(0, 9); n != 2 {
		t.Error(n)
	}
	if s := wire.From(b).Text(9); s != "\x02\x04" {
		t.Errorf("%q", s)
	}
	if l := wire.From(b).Ints(9, 0, 9); !slices.Equal(l, []int{1, 2}) {
		t.Error(l)
	}
	if l := wire.From(b).Texts(9, 9); !slices.Equal(l, []string{"\x04", "\x02\x02"}) {
		t.Errorf("%q", l)
	}
}

// P1.5

func TestP1_5Order(t *testing.T) {
	l := edges()
	for n := -300; n <= 300; n++ {
		l = append(l, n)
	}
	for _, x := range l {
		for _, y := range l {
			want := modelFold(x).Cmp(modelFold(y))
			a, b := wire.Int(nil, x), wire.Int(nil, y)
			got := len(a) - len(b)
			if got == 0 {
				got = bytes.Compare(a, b)
			}
			if (got < 0) != (want < 0) || (got > 0) != (want > 0) {
				t.Fatalf("%d %x, %d %x: %d, want %d", x, a, y, b, got, want)
			}
		}
	}
}

// P1.6

func TestP1_6ReaderHasACopy(t *testing.T) {
	b := []byte("\x04ab\x02\x02\x06")
	r := wire.From(b)
	clear(b)
	if s := r.Text(9); s != "ab" {
		t.Errorf("%q", s)
	}
	if l := r.Ints(9, 0, 9); !slices.Equal(l, []int{1}) {
		t.Error(l)
	}
	for i := range b {
		b[i] = 0xff
	}
	if n := r.Int(0, 9); n != 3 || r.Done() != api.OK {
		t.Error(n)
	}
}

func TestP1_6ReadersAreApart(t *testing.T) {
	b := []byte("\x02\x04")
	r, other := wire.From(b), wire.From(b)
	if r.Int(5, 9) != 0 || r.Done() != api.ErrForm {
		t.Error("no failure")
	}
	if other.Int(0, 9) != 1 || other.Int(0, 9) != 2 || other.Done() != api.OK || r.Rest() != 2 || string(b) != "\x02\x04" {
		t.Error("one reader changed the other, or the bytes")
	}
}

func TestP1_6ResultsAreApart(t *testing.T) {
	b := wire.Ints(wire.Ints(nil, []int{1, 2}), []int{3, 4})
	b = wire.Texts(wire.Texts(b, []string{"a", "b"}), []string{"c"})
	r := wire.From(b)
	first := r.Ints(9, 0, 9)
	clear(first)
	_ = append(first, 9, 9, 9, 9)
	second := r.Ints(9, 0, 9)
	names := r.Texts(9, 9)
	clear(names)
	_ = append(names, "x", "y")
	if !slices.Equal(second, []int{3, 4}) || !slices.Equal(first, []int{0, 0}) || !slices.Equal(r.Texts(9, 9), []string{"c"}) || r.Done() != api.OK {
		t.Error("a change of a result changed something else")
	}
	clear(b)
	if !slices.Equal(second, []int{3, 4}) {
		t.Error("a change of the bytes changed a result")
	}
}

func TestP1_6EncodingsAreApart(t *testing.T) {
	ints, texts := []int{1, 2}, []string{"a", "b"}
	b, c := wire.Ints(nil, ints), wire.Texts(nil, texts)
	ints[0], texts[0] = 9, "changed"
	if string(b) != "\x04\x02\x04" || string(c) != "\x04\x02a\x02b" {
		t.Errorf("a change of an argument changed a result: %x %x", b, c)
	}
	clear(b)
	clear(c)
	if !slices.Equal(ints, []int{9, 2}) || !slices.Equal(texts, []string{"changed", "b"}) {
		t.Error("a change of a result changed an argument")
	}
	one, two := wire.Int(nil, 5), wire.Int(nil, 5)
	clear(one)
	if string(two) != "\x0a" || string(wire.Int(nil, 5)) != "\x0a" {
		t.Error("a change of a result changed another one")
	}
}
