package record_test

import (
	"math/rand"
	"slices"
	"strings"
	"testing"

	"bookplate/api"
	"bookplate/record"
)

// tagsAndCodes returns those of some records, and some more.
func tagsAndCodes(records ...api.Record) (tags []string, codes []byte) {
	tags, codes = []string{"", "245", "246"}, []byte("a0z?")
	for _, r := range records {
		for _, f := range r.Fields {
			tags = append(tags, f.Tag)
			for _, s := range f.Subs {
				codes = append(codes, s.Code)
			}
		}
	}
	slices.Sort(tags)
	slices.Sort(codes)
	return slices.Compact(tags), slices.Compact(codes)
}

// checkSameValues checks that two records have the same values of every tag and code but some of them.
func checkSameValues(t *testing.T, a, b api.Record, leaveOut func(tag string, code byte) bool) {
	t.Helper()
	tags, codes := tagsAndCodes(a, b)
	for _, tag := range tags {
		for _, code := range codes {
			if leaveOut(tag, code) {
				continue
			}
			if x, y := record.Get(a, tag, code), record.Get(b, tag, code); !slices.Equal(x, y) {
				t.Fatalf("%.2000s and %.2000s have different values of %q and %q: %q and %q", show(a), show(b), tag, code, x, y)
			}
		}
	}
}

func none(string, byte) bool { return false }

// P12.2

func TestP12_2Canonical(t *testing.T) {
	g := rand.New(rand.NewSource(201))
	changed := 0
	for range 10000 {
		r := anything(g)
		c := record.Canonical(r)
		if !modelIsCanonical(c) || c.ID != r.ID || len(c.Fields) != len(r.Fields) {
			t.Fatalf("%.2000s: %.2000s", show(r), show(c))
		}
		if again := record.Canonical(c); !same(again, c) || !record.Equal(again, c) {
			t.Fatalf("%.2000s: %.2000s", show(c), show(again))
		}
		if record.Valid(c) != record.Valid(r) {
			t.Fatalf("%.2000s: valid is %v", show(r), record.Valid(r))
		}
		checkSameValues(t, r, c, none)
		if !record.Equal(r, c) {
			changed++
		}
		if record.Equal(r, c) != modelIsCanonical(r) {
			t.Fatalf("%.2000s: %.2000s", show(r), show(c))
		}
	}
	if changed < 3000 {
		t.Error("the records are canonical too often:", changed)
	}
}

func TestP12_2Changes(t *testing.T) {
	g := rand.New(rand.NewSource(202))
	done := map[string]int{}
	for range 10000 {
		for _, r := range []api.Record{anyCanonical(g), anyRecord(g)} {
			tag := anyOf(g, []string{anyTag(g), anyOf(g, r.Fields).Tag})
			f := anyField(g)
			added, errAdd := record.Add(r, f)
			set, errSet := record.Set(r, tag, anyCode(g), anyValue(g))
			dropped, errDrop := record.Drop(r, tag)
			for name, c := range map[string]struct {
				made api.Record
				err  api.Errno
			}{"Add": {added, errAdd}, "Set": {set, errSet}, "Drop": {dropped, errDrop}} {
				if c.err != api.OK {
					continue
				}
				done[name]++
				if !modelValid(c.made) || !record.Valid(c.made) || modelIsCanonical(r) && !modelIsCanonical(c.made) || c.made.ID != r.ID {
					t.Fatalf("%.2000s, %s: %.2000s", show(r), name, show(c.made))
				}
			}
		}
	}
	if done["Add"] < 10000 || done["Set"] < 10000 || done["Drop"] < 5000 {
		t.Error("the changes fail too often:", done)
	}
}

// P12.3

func TestP12_3Set(t *testing.T) {
	g := rand.New(rand.NewSource(203))
	counts := [3]int{}
	for range 20000 {
		r := anyOf(g, []api.Record{anyRecord(g), anyCanonical(g)})
		tag, code, value := anyOf(g, []string{anyTag(g), anyOf(g, r.Fields).Tag}), anyCode(g), anyValue(g)
		_, had := record.First(r, tag, code)
		made, err := record.Set(r, tag, code, value)
		if err != api.OK {
			continue
		}
		if first, ok := record.First(made, tag, code); first != value || !ok {
			t.Fatalf("%.2000s, Set %q, %q, %q: %q", show(r), tag, code, value, first)
		}
		checkSameValues(t, r, made, func(otherTag string, otherCode byte) bool { return otherTag == tag && otherCode == code })
		before, behind := record.Get(r, tag, code), record.Get(made, tag, code)
		switch {
		case len(record.Fields(r, tag)) == 0:
			counts[0]++
			if len(behind) != 1 || len(made.Fields) != len(r.Fields)+1 {
				t.Fatalf("%.2000s: %.2000s", show(r), show(made))
			}
		case had && slices.ContainsFunc(record.Fields(r, tag)[0].Subs, func(s api.Sub) bool { return s.Code == code }):
			counts[1]++
			if !slices.Equal(before[1:], behind[1:]) || len(made.Fields) != len(r.Fields) {
				t.Fatalf("%.2000s: %.2000s", show(r), show(made))
			}
		default:
			counts[2]++
			if !slices.Equal(before, behind[1:]) || len(made.Fields) != len(r.Fields) {
				t.Fatalf("%.2000s: %.2000s", show(r), show(made))
			}
		}
	}
	if min(counts[0], counts[1], counts[2]) < 2000 {
		t.Error("the calls are too much alike:", counts)
	}
}

func TestP12_3Add(t *testing.T) {
	g := rand.New(rand.NewSource(204))
	done := 0
	for range 10000 {
		r, f := anyCanonical(g), anyField(g)
		made, err := record.Add(r, f)
		if err != api.OK {
			continue
		}
		done++
		l := record.Fields(made, f.Tag)
		before := record.Fields(r, f.Tag)
		if len(l) != len(before)+1 || showFields(l[len(l)-1:]) != showFields([]api.Field{f}) || showFields(l[:len(l)-1]) != showFields(before) {
			t.Fatalf("%.2000s, Add%s: %.2000s", show(r), showFields([]api.Field{f}), show(made))
		}
		checkSameValues(t, r, made, func(tag string, _ byte) bool { return tag == f.Tag })
	}
	if done < 9000 {
		t.Error("the changes fail too often:", done)
	}
}

func TestP12_3Drop(t *testing.T) {
	g := rand.New(rand.NewSource(205))
	done := 0
	for range 10000 {
		r := anyOf(g, []api.Record{anyRecord(g), anyCanonical(g)})
		tag := anyOf(g, r.Fields).Tag
		made, err := record.Drop(r, tag)
		if err != api.OK {
			continue
		}
		done++
		if len(record.Fields(made, tag)) != 0 || len(made.Fields) != len(r.Fields)-len(record.Fields(r, tag)) {
			t.Fatalf("%.2000s, Drop %q: %.2000s", show(r), tag, show(made))
		}
		if _, err := record.Drop(made, tag); err != api.ErrNone {
			t.Fatalf("%.2000s, Drop %q again: %s", show(made), tag, api.Name(err))
		}
		checkSameValues(t, r, made, func(other string, _ byte) bool { return other == tag })
	}
	if done < 6000 {
		t.Error("the changes fail too often:", done)
	}
}

// P12.4

func TestP12_4RoundTrips(t *testing.T) {
	g := rand.New(rand.NewSource(206))
	check := func(r api.Record) {
		t.Helper()
		b, err := record.Encode(r)
		if read, errRead := record.Decode(b); err != api.OK || errRead != api.OK || !same(read, r) || !record.Equal(read, r) {
			t.Fatalf("%.2000s becomes %.2000q, and this %.2000s, %s", show(r), b, show(read), api.Name(errRead))
		}
		s, err := record.Print(r)
		if read, line, errRead := record.Parse(s); err != api.OK || errRead != api.OK || line != 0 || !same(read, r) || !record.Equal(read, r) {
			t.Fatalf("%.2000s becomes %.2000q, and this %.2000s, %d, %s", show(r), s, show(read), line, api.Name(errRead))
		}
	}
	for range 10000 {
		check(anyRecord(g))
	}
	check(rec(1000000000, slices.Repeat([]api.Field{field("999", "zz", slices.Repeat([]string{"z" + strings.Repeat("$", 400)}, 20)...)}, 60)...))
}

// spoilBytes returns bytes with a small change.
func spoilBytes(g *rand.Rand, b []byte) []byte {
	b = slices.Clone(b)
	at := g.Intn(len(b))
	switch g.Intn(5) {
	case 0:
		b[at] = byte(g.Intn(256))
	case 1:
		b[at] += 2
	case 2:
		return b[:at]
	case 3:
		return append(b, byte(g.Intn(256)))
	case 4:
		return slices.Insert(b, at, anyOf(g, []byte{0, 0x80, 0x81, 0xFF, 2, 'x'}))
	}
	return b
}

func TestP12_4Encodings(t *testing.T) {
	g := rand.New(rand.NewSource(207))
	accepted := 0
	for range 20000 {
		b := spoilBytes(g, []byte(modelEncode(anyRecord(g))))
		r, err := record.Decode(b)
		want, ok := modelDecode(string(b))
		if !same(r, want) || (err == api.OK) != ok || err != api.OK && err != api.ErrForm {
			t.Fatalf("%.2000q: %.2000s, %s, want %.2000s", b, show(r), api.Name(err), show(want))
		}
		if !ok {
			continue
		}
		accepted++
		if again, err := record.Encode(r); err != api.OK || string(again) != string(b) {
			t.Fatalf("%.2000q becomes %.2000q", b, again)
		}
	}
	if accepted < 1000 || accepted > 17000 {
		t.Error("the bytes are too much alike:", accepted)
	}
}

func TestP12_4Texts(t *testing.T) {
	g := rand.New(rand.NewSource(208))
	accepted := 0
	for range 20000 {
		s := spoilText(g, modelPrint(anyRecord(g)))
		r, _, err := record.Parse(s)
		if err != api.OK {
			continue
		}
		accepted++
		if again, err := record.Print(r); err != api.OK || again != s {
			t.Fatalf("%.2000q becomes %.2000q", s, again)
		}
	}
	if accepted < 1000 || accepted > 17000 {
		t.Error("the texts are too much alike:", accepted)
	}
}

// P12.5

func TestP12_5Order(t *testing.T) {
	g := rand.New(rand.NewSource(209))
	equal := 0
	for range 10000 {
		a := anyRecord(g)
		b := vary(g, a)
		c := vary(g, b)
		if len(b.Fields) > 0 && g.Intn(10) == 0 {
			b = spoil(g, b)
		}
		x, y, z := record.Compare(a, b), record.Compare(b, c), record.Compare(a, c)
		if record.Compare(b, a) != -x || record.Compare(c, b) != -y || record.Compare(c, a) != -z || record.Compare(a, a) != 0 {
			t.Fatalf("%.2000s, %.2000s", show(a), show(b))
		}
		if x <= 0 && y <= 0 && z > 0 || x >= 0 && y >= 0 && z < 0 || x < 0 && y <= 0 && z == 0 || x <= 0 && y < 0 && z == 0 {
			t.Fatalf("%.2000s, %.2000s, %.2000s: %d, %d, %d", show(a), show(b), show(c), x, y, z)
		}
		if record.Valid(a) && record.Valid(b) && (x == 0) != record.Equal(a, b) {
			t.Fatalf("%.2000s, %.2000s: %d", show(a), show(b), x)
		}
		if x == 0 {
			equal++
		}
	}
	if equal < 1000 || equal > 8000 {
		t.Error("the records are too much alike:", equal)
	}
}

// P12.6

func TestP12_6Lines(t *testing.T) {
	g := rand.New(rand.NewSource(210))
	checked := 0
	for range 10000 {
		s := spoilText(g, modelPrint(anyRecord(g)))
		_, line, err := record.Parse(s)
		lines := strings.SplitAfter(s, "\n")
		if err == api.OK || !strings.HasSuffix(lines[line], "\n") {
			continue
		}
		checked++
		upTo := strings.Join(lines[:line+1], "")
		for _, more := range []string{"", "\n", "x", "245 __ $a x\n", "record 7\n245 __ $a x\n", "\xFF", modelPrint(anyRecord(g)), strings.Join(lines[line+1:], "") + "x"} {
			if checkWrong(t, upTo+more, line); t.Failed() {
				return
			}
		}
	}
	if checked < 3000 {
		t.Error("there are too few wrong texts:", checked)
	}
}

// A text of very many lines takes no longer than its right ones.
func TestP12_6ManyLines(t *testing.T) {
	many := strings.Repeat("245 __ $a x\n", 1<<22)
	checkWrong(t, "record 7\n"+many, 61)
	checkWrong(t, "record 7\nx\n"+many, 1)
	checkWrong(t, many, 0)
	checkWrong(t, "record 7\n245 __ $a x\n\n"+many, 2)
}
