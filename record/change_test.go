package record_test

import (
	"fmt"
	"math/rand"
	"slices"
	"strings"
	"testing"

	"bookplate/api"
	"bookplate/record"
)

// checkResult checks the result of a change; with an error, it is zero.
func checkResult(t *testing.T, r api.Record, what string, got api.Record, err api.Errno, want api.Record, wantErr api.Errno) {
	t.Helper()
	if err != wantErr || !same(got, want) {
		t.Fatalf("%.2000s, %.2000s: %.2000s, %s, want %.2000s, %s", show(r), what, show(got), api.Name(err), show(want), api.Name(wantErr))
	}
}

func checkAdd(t *testing.T, r api.Record, f api.Field, want api.Record, wantErr api.Errno) {
	t.Helper()
	got, err := record.Add(r, f)
	checkResult(t, r, "Add"+showFields([]api.Field{f}), got, err, want, wantErr)
}

func checkSet(t *testing.T, r api.Record, tag string, code byte, value string, want api.Record, wantErr api.Errno) {
	t.Helper()
	got, err := record.Set(r, tag, code, value)
	checkResult(t, r, fmt.Sprintf("Set %q %q %q", tag, code, value), got, err, want, wantErr)
}

func checkDrop(t *testing.T, r api.Record, tag string, want api.Record, wantErr api.Errno) {
	t.Helper()
	got, err := record.Drop(r, tag)
	checkResult(t, r, fmt.Sprintf("Drop %q", tag), got, err, want, wantErr)
}

// notValid returns records that are not valid, each for one reason.
func notValid() []api.Record {
	x := field("245", "  ", "ax")
	return []api.Record{
		{}, rec(7), rec(0, x), rec(-7, x), rec(1000000001, x), rec(least, x), rec(greatest, x), rec(7, several(61, "245")...), rec(7, x, field("000", "  ", "ax")), rec(7, field("24", "  ", "ax"), x), rec(7, x, field("245", "_ ", "ax")), rec(7, x, field("245", " \x00", "ax")), rec(7, x, field("245", "  ")), rec(7, x, field("245", "  ", "Ax")), rec(7, x, field("245", "  ", "a")), rec(7, x, field("245", "  ", "ax ")), rec(7, x, field("245", "  ", "ax\n")), rec(7, x, field("245", "  ", "a"+strings.Repeat("x", 401))), rec(7, x, field("245", "  ", slices.Repeat([]string{"ax"}, 21)...)),
	}
}

// P12.1: Add

func TestP12_1AddExamples(t *testing.T) {
	a, b, c := field("100", "  ", "ax"), field("245", "0 ", "ay", "bz"), field("700", " 1", "az")
	b2 := field("245", "1 ", "aa")
	checkAdd(t, rec(7, a, c), b, rec(7, a, b, c), api.OK)
	checkAdd(t, rec(7, b, c), a, rec(7, a, b, c), api.OK)
	checkAdd(t, rec(7, a, b), c, rec(7, a, b, c), api.OK)
	checkAdd(t, rec(7, a, b, c), b2, rec(7, a, b, b2, c), api.OK)
	checkAdd(t, rec(7, a, b, b, c), b, rec(7, a, b, b, b, c), api.OK)
	checkAdd(t, rec(7, b), b2, rec(7, b, b2), api.OK)
	checkAdd(t, rec(7, b2), b, rec(7, b2, b), api.OK)
	// in records that are not canonical, the first field that has a greater tag counts
	checkAdd(t, rec(7, c, b, a), b2, rec(7, b2, c, b, a), api.OK)
	checkAdd(t, rec(7, b, a, c, a), a, rec(7, a, b, a, c, a), api.OK)
	checkAdd(t, rec(7, b, a, b), b2, rec(7, b, a, b, b2), api.OK)
	// 60 fields
	l := several(60, "245")
	checkAdd(t, rec(7, l[:59]...), l[59], rec(7, l...), api.OK)
	checkAdd(t, rec(7, l[:59]...), a, rec(7, append([]api.Field{a}, l[:59]...)...), api.OK)
	checkAdd(t, rec(7, l...), a, api.Record{}, api.ErrLimit)
	checkAdd(t, rec(7, l...), b, api.Record{}, api.ErrLimit)
}

// wrongFields returns fields that are not valid.
func wrongFields() []api.Field {
	l := []api.Field{{}, field("245", "  "), field("245", "__", "ax"), field("245", " A", "ax"), field("245", "  ", "Ax"), field("245", "  ", "ax", "a"), field("245", "  ", "a x"), field("245", "  ", slices.Repeat([]string{"ax"}, 21)...)}
	for _, tag := range wrongTags() {
		l = append(l, field(tag, "  ", "ax"))
	}
	return l
}

func TestP12_1AddErrors(t *testing.T) {
	x := field("245", "  ", "ax")
	for _, r := range notValid() {
		for _, f := range append(wrongFields(), x) {
			checkAdd(t, r, f, api.Record{}, api.ErrArg)
		}
	}
	for _, f := range wrongFields() {
		checkAdd(t, rec(7, x), f, api.Record{}, api.ErrField)
		checkAdd(t, rec(7, several(60, "245")...), f, api.Record{}, api.ErrField)
	}
}

func TestP12_1AddAny(t *testing.T) {
	g := rand.New(rand.NewSource(125))
	for range 20000 {
		r, f := anyRecord(g), anyField(g)
		if g.Intn(8) == 0 {
			r = spoil(g, r)
		}
		if g.Intn(8) == 0 {
			f = anyOf(g, wrongFields())
		}
		want, wantErr := modelAdd(r, f)
		checkAdd(t, r, f, want, wantErr)
	}
}

// P12.1: Set

func TestP12_1SetExamples(t *testing.T) {
	a, c := field("100", "  ", "ax"), field("700", " 1", "az")
	r := rec(7, a, field("245", "0 ", "bq", "ay", "ap"), field("245", "1 ", "ar", "cs"), c)
	checkSet(t, r, "245", 'a', "new", rec(7, a, field("245", "0 ", "bq", "anew", "ap"), field("245", "1 ", "ar", "cs"), c), api.OK)
	checkSet(t, r, "245", 'b', "new", rec(7, a, field("245", "0 ", "bnew", "ay", "ap"), field("245", "1 ", "ar", "cs"), c), api.OK)
	checkSet(t, r, "245", 'c', "new", rec(7, a, field("245", "0 ", "bq", "ay", "ap", "cnew"), field("245", "1 ", "ar", "cs"), c), api.OK)
	checkSet(t, r, "245", '0', "$", rec(7, a, field("245", "0 ", "bq", "ay", "ap", "0$"), field("245", "1 ", "ar", "cs"), c), api.OK)
	checkSet(t, r, "245", 'a', "y", r, api.OK)
	checkSet(t, r, "700", 'a', "new", rec(7, append(slices.Clone(r.Fields[:3]), field("700", " 1", "anew"))...), api.OK)
	checkSet(t, r, "650", 'a', "new", rec(7, r.Fields[0], r.Fields[1], r.Fields[2], field("650", "  ", "anew"), c), api.OK)
	checkSet(t, r, "001", 'z', "new", rec(7, append([]api.Field{field("001", "  ", "znew")}, r.Fields...)...), api.OK)
	checkSet(t, r, "999", '9', "new", rec(7, append(slices.Clone(r.Fields), field("999", "  ", "9new"))...), api.OK)
	// a record that is not canonical
	checkSet(t, rec(7, c, a), "245", 'a', "new", rec(7, field("245", "  ", "anew"), c, a), api.OK)
	checkSet(t, rec(7, c, a), "100", 'b', "new", rec(7, c, field("100", "  ", "ax", "bnew")), api.OK)
}

func TestP12_1SetLimits(t *testing.T) {
	full := fullField("245")
	made := modelCopy(rec(7, full))
	made.Fields[0].Subs[19].Value = "new"
	checkSet(t, rec(7, full), "245", 't', "new", made, api.OK)
	checkSet(t, rec(7, full), "245", 'u', "new", api.Record{}, api.ErrLimit)
	checkSet(t, rec(7, full, field("245", "  ", "zx")), "245", 'z', "new", api.Record{}, api.ErrLimit)
	nearly := full
	nearly.Subs = full.Subs[:19]
	full.Subs = append(slices.Clone(nearly.Subs), api.Sub{Code: 'z', Value: "new"})
	checkSet(t, rec(7, nearly), "245", 'z', "new", rec(7, full), api.OK)

	l := several(60, "245")
	checkSet(t, rec(7, l...), "246", 'a', "new", api.Record{}, api.ErrLimit)
	checkSet(t, rec(7, l...), "100", 'a', "new", api.Record{}, api.ErrLimit)
	checkSet(t, rec(7, l[:59]...), "246", 'a', "new", rec(7, append(slices.Clone(l[:59]), field("246", "  ", "anew"))...), api.OK)
	checkSet(t, rec(7, l...), "245", 'a', "new", rec(7, append([]api.Field{field("245", "  ", "anew")}, l[1:]...)...), api.OK)
	checkSet(t, rec(7, l...), "245", 'b', "new", rec(7, append([]api.Field{field("245", "  ", "a0", "bnew")}, l[1:]...)...), api.OK)
}

func TestP12_1SetErrors(t *testing.T) {
	x := field("245", "  ", "ax")
	for _, r := range notValid() {
		checkSet(t, r, "245", 'a', "new", api.Record{}, api.ErrArg)
		checkSet(t, r, "000", 'A', "", api.Record{}, api.ErrArg)
	}
	full := rec(7, append(several(59, "245"), fullField("700"))...)
	for _, r := range []api.Record{rec(7, x), full} {
		for _, tag := range wrongTags() {
			checkSet(t, r, tag, 'a', "new", api.Record{}, api.ErrField)
			checkSet(t, r, tag, 'a', "", api.Record{}, api.ErrField)
		}
		for _, code := range wrongCodes() {
			checkSet(t, r, "245", code, "new", api.Record{}, api.ErrField)
			checkSet(t, r, "000", code, "new", api.Record{}, api.ErrField)
			checkSet(t, r, "700", code, " new", api.Record{}, api.ErrField)
			checkSet(t, r, "100", code, "new", api.Record{}, api.ErrField)
		}
		for _, value := range wrongValues() {
			checkSet(t, r, "245", 'a', value, api.Record{}, api.ErrText)
			checkSet(t, r, "100", 'a', value, api.Record{}, api.ErrText)
			checkSet(t, r, "700", 'z', value, api.Record{}, api.ErrText)
		}
	}
	for c := range 256 {
		_, err := record.Set(rec(7, x), "245", byte(c), "new")
		if want := '0' <= c && c <= '9' || 'a' <= c && c <= 'z'; want != (err == api.OK) {
			t.Errorf("the code %q: %s", byte(c), api.Name(err))
		}
	}
}

func TestP12_1SetAny(t *testing.T) {
	g := rand.New(rand.NewSource(126))
	errors := map[api.Errno]int{}
	for range 20000 {
		r, tag, code, value := anyRecord(g), anyTag(g), anyCode(g), anyValue(g)
		switch g.Intn(20) {
		case 0:
			r = spoil(g, r)
		case 1:
			tag = anyOf(g, wrongTags())
		case 2:
			code = anyOf(g, wrongCodes())
		case 3:
			value = anyOf(g, wrongValues())
		}
		want, wantErr := modelSet(r, tag, code, value)
		checkSet(t, r, tag, code, value, want, wantErr)
		errors[wantErr]++
	}
	if len(errors) != 5 || errors[api.ErrLimit] < 30 {
		t.Error("the calls are too much alike:", errors)
	}
}

// P12.1: Drop

func TestP12_1DropExamples(t *testing.T) {
	a, b, b2, c := field("100", "  ", "ax"), field("245", "0 ", "ay", "bz"), field("245", "1 ", "aa"), field("700", " 1", "az")
	checkDrop(t, rec(7, a, b, b2, c), "245", rec(7, a, c), api.OK)
	checkDrop(t, rec(7, a, b, b2, c), "100", rec(7, b, b2, c), api.OK)
	checkDrop(t, rec(7, a, b, b2, c), "700", rec(7, a, b, b2), api.OK)
	checkDrop(t, rec(7, c, b, a, b2), "245", rec(7, c, a), api.OK)
	checkDrop(t, rec(7, b, b2, a), "245", rec(7, a), api.OK)
	checkDrop(t, rec(7, a, b), "700", api.Record{}, api.ErrNone)
	checkDrop(t, rec(7, b), "246", api.Record{}, api.ErrNone)
	checkDrop(t, rec(7, b), "245", api.Record{}, api.ErrLimit)
	checkDrop(t, rec(7, b, b2, b), "245", api.Record{}, api.ErrLimit)
	checkDrop(t, rec(7, several(60, "245")...), "245", api.Record{}, api.ErrLimit)
	checkDrop(t, rec(7, append(several(59, "245"), c)...), "245", rec(7, c), api.OK)
	for _, r := range notValid() {
		for _, tag := range []string{"245", "100", "000", ""} {
			checkDrop(t, r, tag, api.Record{}, api.ErrArg)
		}
	}
	for _, tag := range wrongTags() {
		checkDrop(t, rec(7, b), tag, api.Record{}, api.ErrField)
	}
}

func TestP12_1DropAny(t *testing.T) {
	g := rand.New(rand.NewSource(127))
	errors := map[api.Errno]int{}
	for range 20000 {
		r, tag := anyRecord(g), anyTag(g)
		if g.Intn(2) == 0 {
			tag = anyOf(g, r.Fields).Tag
		}
		switch g.Intn(20) {
		case 0:
			r = spoil(g, r)
		case 1:
			tag = anyOf(g, wrongTags())
		}
		want, wantErr := modelDrop(r, tag)
		checkDrop(t, r, tag, want, wantErr)
		errors[wantErr]++
	}
	if len(errors) != 5 || errors[api.ErrLimit] < 500 || errors[api.ErrNone] < 500 {
		t.Error("the calls are too much alike:", errors)
	}
}

// P12.1: arguments and results share no memory

// scribble changes everything in some fields, and what they have room for.
func scribble(l []api.Field) {
	l = l[:cap(l)]
	for i := range l {
		subs := l[i].Subs[:cap(l[i].Subs)]
		for k := range subs {
			subs[k] = api.Sub{Code: '?', Value: "scribbled"}
		}
		l[i].Tag, l[i].Ind = "???", [2]byte{'?', '?'}
	}
}

// roomy returns a copy of a record with room behind the fields and the subfields.
func roomy(r api.Record) api.Record {
	c := api.Record{ID: r.ID, Fields: append(make([]api.Field, 0, len(r.Fields)+2), r.Fields...)}
	for i, f := range c.Fields {
		c.Fields[i].Subs = append(make([]api.Sub, 0, len(f.Subs)+2), f.Subs...)
	}
	return c
}

func TestP12_1Memory(t *testing.T) {
	g := rand.New(rand.NewSource(128))
	for range 1000 {
		tag, code, f := anyTag(g), anyCode(g), anyField(g)
		some := roomy(rec(1, f)).Fields[0]
		for name, call := range map[string]func(r api.Record) []api.Field{
			"Canonical": func(r api.Record) []api.Field { return record.Canonical(r).Fields },
			"Fields":    func(r api.Record) []api.Field { return record.Fields(r, tag) },
			"Add":       func(r api.Record) []api.Field { made, _ := record.Add(r, some); return made.Fields },
			"Set":       func(r api.Record) []api.Field { made, _ := record.Set(r, tag, code, "new"); return made.Fields },
			"Drop":      func(r api.Record) []api.Field { made, _ := record.Drop(r, tag); return made.Fields },
		} {
			checkMemory(t, name, anyRecord(g), call)
		}
		made, _ := record.Add(rec(1, field("245", "  ", "ax")), some)
		before := modelCopy(made)
		if !sameFields([]api.Field{some}, []api.Field{f}) {
			t.Fatal("Add changes its field")
		}
		if scribble([]api.Field{some}); !same(made, before) {
			t.Fatal("Add keeps memory of its field")
		}
	}
}

// checkMemory checks that a function neither changes its argument nor gives or keeps memory of it.
func checkMemory(t *testing.T, name string, r api.Record, call func(r api.Record) []api.Field) {
	t.Helper()
	given := roomy(r)
	behind := modelCopy(rec(0, given.Fields[:cap(given.Fields)]...))
	first, second := call(given), call(given)
	want := modelCopy(rec(0, first...)).Fields
	if !same(given, r) || !sameFields(given.Fields[:cap(given.Fields)], behind.Fields) {
		t.Fatal(name, "changes its argument:", show(r))
	}
	// each list of a result has memory of its own, so that nothing else changes when one is scribbled on, and appended to
	for i := range first {
		scribble(first[i : i+1 : i+1])
		if !sameFields(first[i+1:], want[i+1:]) {
			t.Fatal(name, "gives lists that share memory:", show(r))
		}
	}
	scribble(first)
	if !same(given, r) || !sameFields(second, want) || !sameFields(call(given), want) {
		t.Fatal(name, "gives memory of its argument:", show(r))
	}
	scribble(given.Fields)
	if !sameFields(second, want) {
		t.Fatal(name, "keeps memory of its argument:", show(r))
	}
}
