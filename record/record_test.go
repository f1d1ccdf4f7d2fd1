package record_test

import (
	"math/rand"
	"slices"
	"strings"
	"testing"

	"bookplate/api"
	"bookplate/record"
	rep "bookplate/repertoire"
)

// P12.1: what is valid

func TestP12_1Tags(t *testing.T) {
	for _, tag := range []string{"001", "010", "100", "245", "852", "999", "090", "900", "111"} {
		if !record.ValidTag(tag) {
			t.Errorf("%q is not valid", tag)
		}
	}
	for _, tag := range wrongTags() {
		if record.ValidTag(tag) {
			t.Errorf("%q is valid", tag)
		}
	}
	for i := range 3 {
		for c := range 256 {
			b := []byte("245")
			b[i] = byte(c)
			if want := '0' <= c && c <= '9'; record.ValidTag(string(b)) != want {
				t.Errorf("%q: %v", b, !want)
			}
		}
	}
}

// checkField checks whether a field is valid, and a record with it.
func checkField(t *testing.T, f api.Field, want bool) {
	t.Helper()
	if modelField(f) != want {
		t.Errorf("the model is wrong: %.200s", showFields([]api.Field{f}))
	}
	if record.ValidField(f) != want {
		t.Errorf("ValidField is %v: %.200s", !want, showFields([]api.Field{f}))
	}
	for _, r := range []api.Record{rec(1, f), rec(1, field("245", "  ", "ax"), f), rec(1, f, field("245", "  ", "ax"))} {
		if record.Valid(r) != want {
			t.Errorf("Valid is %v: %.200s", !want, show(r))
		}
	}
}

func TestP12_1FieldExamples(t *testing.T) {
	for _, f := range []api.Field{
		field("245", "0 ", "aPrice in $", "cx"), field("001", "  ", "0x"), field("999", "az", "zx", "ax", "9x", "0x"), field("245", "09", "ax", "ax"), field("245", " z", `a\`), field("245", "  ", "a\u00A0"), fullField("245"),
	} {
		checkField(t, f, true)
	}
	for _, tag := range wrongTags() {
		checkField(t, field(tag, "  ", "ax"), false)
	}
	for _, value := range wrongValues() {
		checkField(t, field("245", "  ", "a"+value), false)
		checkField(t, field("245", "  ", "ax", "b"+value), false)
		checkField(t, field("245", "  ", "b"+value, "ax"), false)
	}
	checkField(t, api.Field{}, false)
	checkField(t, field("245", "  "), false)
	checkField(t, api.Field{Tag: "245", Ind: [2]byte{' ', ' '}, Subs: []api.Sub{}}, false)
	checkField(t, api.Field{Tag: "245", Subs: []api.Sub{{Code: 'a', Value: "x"}}}, false)
}

func TestP12_1IndicatorsAndCodes(t *testing.T) {
	for c := range 256 {
		code := '0' <= c && c <= '9' || 'a' <= c && c <= 'z'
		for _, ind := range []string{string([]byte{byte(c), '1'}), string([]byte{'1', byte(c)}), string([]byte{byte(c), byte(c)})} {
			checkField(t, field("245", ind, "ax"), code || c == ' ')
		}
		s := string([]byte{byte(c), 'x'})
		checkField(t, field("245", "  ", s), code)
		checkField(t, field("245", "  ", "ax", s), code)
		checkField(t, field("245", "  ", s, "ax"), code)
	}
}

func TestP12_1Numbers(t *testing.T) {
	for _, n := range []int{1, 2, 19, 20, 21, 22, 1000} {
		checkField(t, api.Field{Tag: "245", Ind: [2]byte{' ', '1'}, Subs: slices.Repeat([]api.Sub{{Code: 'a', Value: "x"}}, n)}, n <= 20)
	}
	for _, n := range []int{0, 1, 2, 59, 60, 61, 62, 1000} {
		if want := 1 <= n && n <= 60; record.Valid(rec(7, several(n, "245")...)) != want {
			t.Error("fields:", n, !want)
		}
	}
	for id, want := range map[int]bool{1: true, 2: true, 7: true, 999999999: true, 1000000000: true, 0: false, -1: false, 1000000001: false, 1 << 32: false, 1<<32 + 1: false, least: false, greatest: false, least + 1: false} {
		if record.Valid(rec(id, several(1, "245")...)) != want {
			t.Error("ID:", id, !want)
		}
	}
	if record.Valid(api.Record{}) || record.Valid(api.Record{ID: 1, Fields: []api.Field{}}) {
		t.Error("no fields")
	}
	// the fields of a record need not be in order
	if !record.Valid(rec(7, field("700", "  ", "ax"), field("100", "  ", "ax"))) {
		t.Error("not canonical")
	}
}

func TestP12_1ValidAny(t *testing.T) {
	g := rand.New(rand.NewSource(121))
	for range 10000 {
		r := anyRecord(g)
		if !modelValid(r) || !record.Valid(r) || !record.ValidField(r.Fields[0]) {
			t.Fatal("not valid:", show(r))
		}
		if wrong := spoil(g, r); modelValid(wrong) || record.Valid(wrong) {
			t.Fatalf("valid: %.2000s", show(wrong))
		}
		if r = anything(g); record.Valid(r) != modelValid(r) {
			t.Fatalf("%v: %.2000s", record.Valid(r), show(r))
		}
	}
}

// P12.1: canonical forms

func checkCanonical(t *testing.T, r, want api.Record) {
	t.Helper()
	if c := record.Canonical(r); !same(c, want) {
		t.Fatalf("%.2000s: the canonical form is %.2000s, want %.2000s", show(r), show(c), show(want))
	}
}

func TestP12_1CanonicalExamples(t *testing.T) {
	a, b, c := field("100", "  ", "ax"), field("245", "0 ", "ay", "bz"), field("700", " 1", "az")
	b2 := field("245", "1 ", "aa")
	checkCanonical(t, rec(7, c, b, a), rec(7, a, b, c))
	checkCanonical(t, rec(7, a, b, c), rec(7, a, b, c))
	checkCanonical(t, rec(7, b, c, b2, a), rec(7, a, b, b2, c))
	checkCanonical(t, rec(7, b2, c, b, a), rec(7, a, b2, b, c))
	checkCanonical(t, rec(7, b, b, b2, b), rec(7, b, b, b2, b))
	checkCanonical(t, rec(7, a), rec(7, a))
	// any records
	checkCanonical(t, api.Record{}, api.Record{})
	checkCanonical(t, api.Record{ID: -3, Fields: []api.Field{}}, rec(-3))
	checkCanonical(t, rec(greatest, field("b", "\x00\xFF"), field("", "xy", "a"), field("ab", "??", " \n"), field("a", "..")), rec(greatest, field("", "xy", "a"), field("a", ".."), field("ab", "??", " \n"), field("b", "\x00\xFF")))
	checkCanonical(t, rec(0, field("é", ".."), field("\xFF", ".."), field("z", ".."), field("Z", "..")), rec(0, field("Z", ".."), field("z", ".."), field("é", ".."), field("\xFF", "..")))
}

func TestP12_1CanonicalAny(t *testing.T) {
	g := rand.New(rand.NewSource(122))
	for range 20000 {
		r := anything(g)
		checkCanonical(t, r, modelCanonical(r))
	}
	var fields []api.Field
	for i := range 200000 {
		fields = append(fields, field(anyTag(g), "  ", "a"+strings.Repeat("x", i%3)))
	}
	checkCanonical(t, rec(7, fields...), modelCanonical(rec(7, fields...)))
}

// P12.1: equal records

func TestP12_1EqualExamples(t *testing.T) {
	r := rec(7, field("245", "0 ", "ax", "by"), field("700", "  ", "az"))
	if !record.Equal(r, modelCopy(r)) || !record.Equal(r, r) {
		t.Error("a copy is not equal")
	}
	for _, other := range []api.Record{
		{}, rec(7), rec(8, r.Fields...), rec(-7, r.Fields...), rec(7, r.Fields[0]), rec(7, r.Fields[1]), rec(7, r.Fields[1], r.Fields[0]), rec(7, r.Fields[0], r.Fields[1], r.Fields[1]), rec(7, r.Fields[0], r.Fields[0]),
		rec(7, field("246", "0 ", "ax", "by"), r.Fields[1]), rec(7, field("245", "1 ", "ax", "by"), r.Fields[1]), rec(7, field("245", "00", "ax", "by"), r.Fields[1]), rec(7, field("245", " 0", "ax", "by"), r.Fields[1]),
		rec(7, field("245", "0 ", "by", "ax"), r.Fields[1]), rec(7, field("245", "0 ", "ax"), r.Fields[1]), rec(7, field("245", "0 ", "ax", "by", "by"), r.Fields[1]), rec(7, field("245", "0 ", "ax", "cy"), r.Fields[1]), rec(7, field("245", "0 ", "ax", "bY"), r.Fields[1]), rec(7, field("245", "0 "), r.Fields[1]),
		rec(7, r.Fields[0], field("700", "  ", "ax")), rec(7, field("245", "0 ", "ax"), field("245", "0 ", "by"), r.Fields[1]),
	} {
		if record.Equal(r, other) || record.Equal(other, r) {
			t.Error("equal:", show(other))
		}
	}
	// texts are compared byte by byte, and nil and empty lists are equal
	if record.Equal(rec(7, field("245", "  ", "aé")), rec(7, field("245", "  ", "ae\u0301"))) {
		t.Error("equal by their normal forms")
	}
	empty := api.Record{Fields: []api.Field{}}
	if !record.Equal(api.Record{}, empty) || !record.Equal(empty, api.Record{}) {
		t.Error("nil and empty fields")
	}
	noSubs := rec(0, api.Field{Subs: []api.Sub{}})
	if !record.Equal(noSubs, rec(0, api.Field{})) || record.Equal(noSubs, api.Record{}) {
		t.Error("nil and empty subfields")
	}
}

func TestP12_1EqualAny(t *testing.T) {
	g := rand.New(rand.NewSource(123))
	for range 20000 {
		a := anything(g)
		b := vary(g, a)
		if want := same(a, b); record.Equal(a, b) != want || record.Equal(b, a) != want {
			t.Fatalf("Equal is %v: %.2000s and %.2000s", !want, show(a), show(b))
		}
	}
}

// vary returns a copy of a record, often with a small change.
func vary(g *rand.Rand, r api.Record) api.Record {
	r = modelCopy(r)
	if len(r.Fields) == 0 || g.Intn(4) == 0 {
		return r
	}
	i := g.Intn(len(r.Fields))
	f := &r.Fields[i]
	switch g.Intn(8) {
	case 0:
		r.ID = 1 + g.Intn(70)
	case 1:
		f.Tag = anyTag(g)
	case 2:
		f.Ind[g.Intn(2)] = anyOf(g, []byte("  01a"))
	case 3:
		r.Fields = slices.Delete(r.Fields, i, i+1)
	case 4:
		r.Fields = slices.Insert(r.Fields, i, anyField(g))
	case 5:
		k := g.Intn(len(r.Fields))
		r.Fields[i], r.Fields[k] = r.Fields[k], r.Fields[i]
	case 6:
		k := g.Intn(len(f.Subs) + 1)
		f.Subs = slices.Insert(f.Subs, k, api.Sub{Code: anyCode(g), Value: anyValue(g)})
	case 7:
		if len(f.Subs) > 0 {
			f.Subs[g.Intn(len(f.Subs))].Value = anyValue(g)
		}
	}
	return r
}

// P12.1: fields and values

// checkValues checks Fields, Get and First for a tag and a code.
func checkValues(t *testing.T, r api.Record, tag string, code byte, want ...string) {
	t.Helper()
	if l := record.Get(r, tag, code); !slices.Equal(l, want) {
		t.Fatalf("%.2000s: Get(%q, %q) is %q, want %q", show(r), tag, code, l, want)
	}
	first := ""
	if len(want) > 0 {
		first = want[0]
	}
	if value, ok := record.First(r, tag, code); value != first || ok != (len(want) > 0) {
		t.Fatalf("%.2000s: First(%q, %q) is %q, %v", show(r), tag, code, value, ok)
	}
	if l, want := record.Fields(r, tag), modelFields(r, tag); !sameFields(l, want) {
		t.Fatalf("%.2000s: Fields(%q) are %s, want %s", show(r), tag, showFields(l), showFields(want))
	}
}

func TestP12_1ValuesExamples(t *testing.T) {
	r := rec(7, field("245", "0 ", "ax", "by", "az"), field("100", "  ", "ap"), field("245", "  ", "bq", "ar"), field("700", "  ", "as"))
	checkValues(t, r, "245", 'a', "x", "z", "r")
	checkValues(t, r, "245", 'b', "y", "q")
	checkValues(t, r, "245", 'c')
	checkValues(t, r, "100", 'a', "p")
	checkValues(t, r, "100", 'b')
	checkValues(t, r, "650", 'a')
	checkValues(t, r, "", 'a')
	checkValues(t, r, "24", 'a')
	checkValues(t, r, "2450", 'a')
	checkValues(t, r, "245", 'A')
	checkValues(t, r, "245", 0)
	if l := record.Fields(r, "245"); showFields(l) != showFields([]api.Field{r.Fields[0], r.Fields[2]}) {
		t.Error(showFields(l))
	}
	if l := record.Fields(r, "650"); len(l) != 0 {
		t.Error(showFields(l))
	}
	// any records
	checkValues(t, api.Record{}, "", 0)
	wrong := rec(0, field("", "\x00\xFF", "\x00", "\x00\xFF", "aé"), field("\xFF", "??"), field("", ".."), field("", "..", "\x00 "))
	checkValues(t, wrong, "", 0, "", "\xFF", " ")
	checkValues(t, wrong, "", 'a', "é")
	checkValues(t, wrong, "\xFF", 0)
	if value, ok := record.First(rec(0, field("", "..", "a")), "", 'a'); value != "" || !ok {
		t.Error("a value that is empty:", value, ok)
	}
}

func TestP12_1ValuesAny(t *testing.T) {
	g := rand.New(rand.NewSource(124))
	found := 0
	for range 20000 {
		r := anything(g)
		tag, code := anyTag(g), anyCode(g)
		if len(r.Fields) > 0 && g.Intn(3) > 0 {
			f := anyOf(g, r.Fields)
			if tag = f.Tag; len(f.Subs) > 0 && g.Intn(2) == 0 {
				code = anyOf(g, f.Subs).Code
			}
		}
		want := modelGet(r, tag, code)
		checkValues(t, r, tag, code, want...)
		if len(want) > 1 {
			found++
		}
	}
	if found < 3000 {
		t.Error("there are too few values:", found)
	}
	long := rec(1, slices.Repeat([]api.Field{field("245", "  ", "ax", "by")}, 1<<17)...)
	checkValues(t, long, "245", 'a', slices.Repeat([]string{"x"}, 1<<17)...)
}

// What is not encoded by layer 4 is no value; the model asks layer 4, too, so that some are named here.
func TestP12_1Values(t *testing.T) {
	for _, c := range rep.List() {
		s := string(rune(c))
		checkField(t, field("245", "  ", "a"+s), s != " ")
		checkField(t, field("245", "  ", "ax"+s+"y"), true)
	}
	for c := range 0x500 {
		s := "x" + string(rune(c)) + "y"
		checkField(t, field("245", "  ", "a"+s), rep.Has(c))
	}
	for n, want := range map[int]bool{1: true, 399: true, 400: true, 401: false, 402: false} {
		checkField(t, field("245", "  ", "a"+strings.Repeat("x", n)), want)
	}
	checkField(t, field("245", "  ", "a"+strings.Repeat("é", 200)), true)
	checkField(t, field("245", "  ", "a"+strings.Repeat("é", 201)), false)
}
