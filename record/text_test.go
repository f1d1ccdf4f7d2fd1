package record_test

import (
	"bytes"
	"math/rand"
	"slices"
	"strings"
	"testing"

	"bookplate/api"
	"bookplate/record"
)

// P12.1: encodings

func TestP12_1EncodeExamples(t *testing.T) {
	for _, c := range []struct {
		r    api.Record
		want string
	}{
		{rec(7, field("245", "0 ", "aPrice in $", "cx")), "\x0E\x02" + "\x06245\x60\x40\x04" + "\x81\x42\x14Price in $" + "\x81\x46\x02x"},
		{rec(1, field("001", "az", "0é"), field("001", "  ", "zx")), "\x02\x04" + "\x06001\x81\x42\x81\x74\x02\x60\x04é" + "\x06001\x40\x40\x02\x81\x74\x02x"},
		{rec(64, field("999", "9 ", "9"+strings.Repeat("x", 64))), "\x81\x00\x02" + "\x06999\x72\x40\x02\x72\x81\x00" + strings.Repeat("x", 64)},
	} {
		if c.want != modelEncode(c.r) {
			t.Errorf("the model is wrong: %q", modelEncode(c.r))
		}
		if b, err := record.Encode(c.r); err != api.OK || string(b) != c.want {
			t.Errorf("%s: %q, %s, want %q", show(c.r), b, api.Name(err), c.want)
		}
		if r, err := record.Decode([]byte(c.want)); err != api.OK || !same(r, c.r) {
			t.Errorf("%q: %s, %s", c.want, show(r), api.Name(err))
		}
	}
}

func TestP12_1EncodeAny(t *testing.T) {
	g := rand.New(rand.NewSource(129))
	for range 10000 {
		r := anything(g)
		b, err := record.Encode(r)
		if want := modelEncode(r); string(b) != want || (err == api.OK) != modelValid(r) || err != api.OK && err != api.ErrArg {
			t.Fatalf("%.2000s: %.2000q, %s, want %.2000q", show(r), b, api.Name(err), want)
		}
	}
	for _, r := range notValid() {
		if b, err := record.Encode(r); len(b) != 0 || err != api.ErrArg {
			t.Errorf("%.200s: %q, %s", show(r), b, api.Name(err))
		}
	}
}

func checkNoEncoding(t *testing.T, s string) {
	t.Helper()
	if r, err := record.Decode([]byte(s)); err != api.ErrForm || !same(r, api.Record{}) {
		t.Errorf("%.200q: %.200s, %s", s, show(r), api.Name(err))
	}
}

// rawEncoding returns what would be the encoding of a record, if it were valid.
func rawEncoding(r api.Record) string {
	s := modelInt(r.ID) + modelInt(len(r.Fields))
	for _, f := range r.Fields {
		s += modelInt(len(f.Tag)) + f.Tag + modelInt(int(f.Ind[0])) + modelInt(int(f.Ind[1])) + modelInt(len(f.Subs))
		for _, sub := range f.Subs {
			s += modelInt(int(sub.Code)) + modelInt(len(sub.Value)) + sub.Value
		}
	}
	return s
}

func TestP12_1DecodeErrors(t *testing.T) {
	for _, s := range []string{
		"", "\x00", "\x0E", "\x0E\x00", "\x0E\x02", "\x01", "\x80\x0E\x02", "\x0F\x02\x06245\x60\x40\x02\x81\x42\x02x", // no record, or an ID below 0
		"\x0E\x04\x06245\x60\x40\x02\x81\x42\x02x", "\x0E\x01\x06245\x60\x40\x02\x81\x42\x02x", // a field is missing
		"\x0E\x02\x06245\x60\x40\x04\x81\x42\x02x", "\x0E\x02\x06245\x60\x40\x00", "\x0E\x02\x06245\x60\x40\x00\x81\x42\x02x", // a subfield is missing
		"\x0E\x02\x06245\x60\x40\x02\x81\x42\x04x", "\x0E\x02\x06245\x60\x40\x02\x81\x42\x02", "\x0E\x02\x06245\x60\x40\x02\x81\x42\x00", // a value is missing
		"\x0E\x02\x06245\x60\x40\x02\x81\x42\x02x\x00", "\x0E\x02\x06245\x60\x40\x02\x81\x42\x02xx", // something follows
		"\x0E\x02\x06245\x60\x40\x02\x80\x81\x42\x02x", "\x0E\x80\x02\x06245\x60\x40\x02\x81\x42\x02x", "\x0E\x02\x80\x06245\x60\x40\x02\x81\x42\x02x", // leading groups of zeros
		"\x0E\x02\x06245\x84\x60\x40\x02\x81\x42\x02x", "\x0E\x02\x06245\x60\x84\x40\x02\x81\x42\x02x", "\x0E\x02\x06245\x60\x40\x02\x85\x42\x02x", // indicators and codes that are greater by 256
		"\x0E\x02\x06245\x5F\x40\x02\x81\x42\x02x", "\x0E\x02\x06245\x60\x3F\x02\x81\x42\x02x", "\x0E\x02\x06245\x60\x40\x02\x83\x3F\x02x", // below 0
		"\x81\xFF\xFF\xFF\xFF\xFF\xFF\xFF\xFF\x7E\x02\x06245\x60\x40\x02\x81\x42\x02x", "\x0E\x81\xFF\xFF\xFF\xFF\xFF\xFF\xFF\xFF\x7E\x06245\x60\x40\x02\x81\x42\x02x", "\x0E\x02\x81\xFF\xFF\xFF\xFF\xFF\xFF\xFF\xFF\x7E245\x60\x40\x02\x81\x42\x02x", "\x0E\x02\x06245\x60\x40\x81\xFF\xFF\xFF\xFF\xFF\xFF\xFF\xFF\x7E\x81\x42\x02x", "\x0E\x02\x06245\x60\x40\x02\x81\x42\x81\xFF\xFF\xFF\xFF\xFF\xFF\xFF\xFF\x7Ex", // great numbers
		strings.Repeat("\xFF", 1<<16), strings.Repeat("\x00", 1<<16), strings.Repeat("\x02", 1<<16),
	} {
		checkNoEncoding(t, s)
	}
	if r, err := record.Decode([]byte("\x0E\x02\x06245\x60\x40\x02\x81\x42\x02x")); err != api.OK || !same(r, rec(7, field("245", "0 ", "ax"))) {
		t.Error(show(r), api.Name(err))
	}
	if r, err := record.Decode(nil); err != api.ErrForm || !same(r, api.Record{}) {
		t.Error("nil:", show(r), api.Name(err))
	}
	for _, r := range notValid() {
		if r.ID >= 0 && r.ID < greatest {
			checkNoEncoding(t, rawEncoding(r))
		}
	}
	g := rand.New(rand.NewSource(130))
	for range 5000 {
		r := spoil(g, anyRecord(g))
		if r.ID >= 0 && r.ID < greatest {
			checkNoEncoding(t, rawEncoding(r))
		}
	}
}

func TestP12_1EncodingMemory(t *testing.T) {
	r := rec(7, field("245", "0 ", "ax", "by"), field("700", "  ", "az"))
	b, _ := record.Encode(r)
	again, _ := record.Encode(r)
	read, _ := record.Decode(b)
	for i := range b {
		b[i] = 0xFF
	}
	if string(again) != modelEncode(r) || !same(read, r) {
		t.Error("results share memory")
	}
	other, _ := record.Decode(again)
	scribble(read.Fields)
	if string(again) != modelEncode(r) || !same(other, r) {
		t.Error("a record shares memory with the bytes")
	}
	parsed, _, _ := record.Parse(modelPrint(r))
	for i, f := range parsed.Fields {
		_ = append(f.Subs, api.Sub{Code: '?'})
		if showFields(parsed.Fields[i+1:]) != showFields(r.Fields[i+1:]) {
			t.Error("fields share memory")
		}
	}
}

// P12.1: Compare

func TestP12_1CompareExamples(t *testing.T) {
	x := field("245", "  ", "ax")
	// The bytes of the encodings count: the number of fields comes ahead of all of them, the length of a value ahead of it, and a number that is greater by a group of bits may be less.
	ascending := []api.Record{
		{}, // as all that are not valid
		rec(1, field("100", "  ", "ax")), rec(1, x), rec(1, field("245", "  ", "ay")), rec(1, field("245", "  ", "a~")), rec(1, field("245", "  ", "aaa")), rec(1, field("245", "  ", "bx")), rec(1, field("245", "  ", "ax", "ax")), rec(1, field("245", " 0", "ax")), rec(1, field("245", "0 ", "ax")), rec(1, field("246", "  ", "ax")), rec(1, field("100", "  ", "ax"), x), rec(1, x, field("100", "  ", "ax")), rec(1, x, x),
		rec(2, x), rec(63, x), rec(64, x), rec(8192, x), rec(1000000000, x), rec(8191, x),
	}
	for i, a := range ascending {
		for k, b := range ascending {
			want := 0
			if i < k {
				want = -1
			} else if i > k {
				want = 1
			}
			if n := record.Compare(a, b); n != want {
				t.Errorf("%s and %s: %d, want %d", show(a), show(b), n, want)
			}
		}
	}
	for _, wrong := range notValid() {
		if record.Compare(wrong, ascending[1]) != -1 || record.Compare(ascending[1], wrong) != 1 || record.Compare(wrong, api.Record{}) != 0 || record.Compare(api.Record{}, wrong) != 0 {
			t.Errorf("%.200s", show(wrong))
		}
	}
}

func TestP12_1CompareAny(t *testing.T) {
	g := rand.New(rand.NewSource(131))
	for range 20000 {
		a := anything(g)
		b := vary(g, a)
		if want := bytes.Compare([]byte(modelEncode(a)), []byte(modelEncode(b))); record.Compare(a, b) != want || record.Compare(b, a) != -want {
			t.Fatalf("%.2000s and %.2000s: %d and %d", show(a), show(b), record.Compare(a, b), record.Compare(b, a))
		}
	}
}

// P12.1: texts

func TestP12_1PrintExamples(t *testing.T) {
	for _, c := range []struct {
		r    api.Record
		want string
	}{
		{rec(7, field("245", "0 ", "aPrice in $", "cx")), "record 7\n245 0_ $a Price in \\$ $c x\n"},
		{rec(1000000000, field("700", " 1", "aÉ"), field("001", "az", "0x", "0x", "9z  y")), "record 1000000000\n700 _1 $a É\n001 az $0 x $0 x $9 z  y\n"},
		{rec(1, field("245", "  ", `a\`, `b\\`, `c\$`, `d$\`, `e$$`, `f\ $ \`)), "record 1\n245 __ $a \\\\ $b \\\\\\\\ $c \\\\\\$ $d \\$\\\\ $e \\$\\$ $f \\\\ \\$ \\\\\n"},
		{rec(10, field("245", "  ", "a$a x", "b_", "crecord 7")), "record 10\n245 __ $a \\$a x $b _ $c record 7\n"},
	} {
		if c.want != modelPrint(c.r) {
			t.Errorf("the model is wrong: %q", modelPrint(c.r))
		}
		if s, err := record.Print(c.r); err != api.OK || s != c.want {
			t.Errorf("%s: %q, %s, want %q", show(c.r), s, api.Name(err), c.want)
		}
		checkParse(t, c.want, c.r, 0, api.OK)
	}
}

func TestP12_1PrintAny(t *testing.T) {
	g := rand.New(rand.NewSource(132))
	for range 10000 {
		r := anything(g)
		s, err := record.Print(r)
		if want := modelPrint(r); s != want || (err == api.OK) != modelValid(r) || err != api.OK && err != api.ErrArg {
			t.Fatalf("%.2000s: %.2000q, %s, want %.2000q", show(r), s, api.Name(err), want)
		}
	}
	for _, r := range notValid() {
		if s, err := record.Print(r); s != "" || err != api.ErrArg {
			t.Errorf("%.200s: %q, %s", show(r), s, api.Name(err))
		}
	}
}

func checkParse(t *testing.T, s string, want api.Record, wantLine int, wantErr api.Errno) {
	t.Helper()
	if r, line, err := record.Parse(s); !same(r, want) || line != wantLine || err != wantErr {
		t.Errorf("%.2000q: %.2000s, %d, %s, want %.2000s, %d, %s", s, show(r), line, api.Name(err), show(want), wantLine, api.Name(wantErr))
	}
}

func checkWrong(t *testing.T, s string, wantLine int) {
	t.Helper()
	checkParse(t, s, api.Record{}, wantLine, api.ErrSyntax)
}

func TestP12_1ParseFirstLine(t *testing.T) {
	const rest = "\n245 __ $a x\n"
	for _, s := range []string{
		"", "record", "record ", "record 0", "record 00", "record 07", "record 007", "record -7", "record +7", "record 7 ", "record  7", " record 7", "record\t7", "record 7\r", "record 7x", "record x", "record 7.0", "record 0x7", "record 1_000", "record 7 7", "Record 7", "RECORD 7", "records 7", "record7", "7", "record record 7", "record ７", "record 1000000001", "record 2000000000", "record 10000000000", "record 9223372036854775807", "record 9223372036854775808", "record 18446744073709551617", "record 18446744073709551623", "record -1", "record -9223372036854775808", "record 7\x00", "\uFEFFrecord 7", "record " + strings.Repeat("1", 1<<16), "record " + strings.Repeat("0", 1<<16) + "7", "245 __ $a x", "record $a 7",
	} {
		checkWrong(t, s+rest, 0)
		checkWrong(t, s, 0)
		checkWrong(t, s+"\n", 0)
		checkWrong(t, s+"\nx", 0)
	}
	checkWrong(t, "\n", 0)
	checkWrong(t, "\nrecord 7"+rest, 0)
	checkWrong(t, "record 7", 0)
	checkWrong(t, "record 7\n", 1)
	for _, id := range []int{1, 7, 10, 999, 1000000000} {
		r := rec(id, field("245", "  ", "ax"))
		checkParse(t, modelPrint(r), r, 0, api.OK)
	}
}

// wrongLines returns lines that are those of no valid field.
func wrongLines() []string {
	l := []string{
		"", " ", "245", "245 ", "245 _", "245 __", "245 __ ", "245 __ $", "245 __ $a", "245 __ $a ", "245 __ $a  ", "245 __ $a  x", "245 __ $a x ", "245 __ $ax", "245 __ $a_x", "245 __ a x", "245 __ $ a x", "245 __ $aa x", "245 __ $A x", "245 __ $é x", "245 __ $_ x", "245 __ $$ x", "245 __ $\\ x", "245 __ $\xFF x", "245 __  $a x", "245 __$a x", "245  __ $a x", "245__ $a x", " 245 __ $a x", "245\t__ $a x", "245 __\t$a x", "245 __ $a\tx", "245 __ $a x\r", "245 __ $a x\t", "245 __ x",
		"245 0  $a x", "245  0 $a x", "245    $a x", "245 _ $a x", "245 ___ $a x", "245 0 $a x", "245 A_ $a x", "245 _A $a x", "245 -- $a x", "245 $_ $a x", "245 _\\ $a x", "245 \\_ $a x", "245 é $a x", "245 \xFF_ $a x", "245 _\x00 $a x",
		"24 __ $a x", "2450 __ $a x", "000 __ $a x", "24a __ $a x", "24_ __ $a x", "abc __ $a x", "__ $a x", "２45 __ $a x", "+45 __ $a x", "$a x", " $a x", "record 7", "record 7 $a x",
		"245 __ $a x$", "245 __ $a $", "245 __ $a $x", "245 __ $a x $", "245 __ $a x $ y", "245 __ $a x$b y", "245 __ $a x $b", "245 __ $a x $b ", "245 __ $a x $by", "245 __ $a x  $b y", "245 __ $a  $b y", "245 __ $a $b y", "245 __ $a x $b  y", "245 __ $a x $b y ", "245 __ $a x $B y", "245 __ $a $$ $b y",
		`245 __ $a \`, `245 __ $a x\`, `245 __ $a \x`, `245 __ $a x\ y`, `245 __ $a \\\`, `245 __ $a \\$`, `245 __ $a \\\\\`, `245 __ $a x\ $b y`, `245 __ $a x\\\ $b y`, `245 __ $a \_`, `245 __ $a \n`, `245 __ $a \$\`, `245 __ $a $\`, `245 __ \$a x`, `245 __ $\a x`, `245 __ $a\ x`, `245\ __ $a x`, `245 __\ $a x`,
		"245 __ $a \xFF", "245 __ $a x\x00", "245 __ $a 中", "245 __ $a x\u2019", "245 __ $a " + strings.Repeat("x", 401), "245 __ $a " + strings.Repeat(`\$`, 401), "245 __ $a " + strings.Repeat("é", 201), "245 __" + strings.Repeat(" $a x", 21), "245 __" + strings.Repeat(" $a x", 22), "245 __" + strings.Repeat(" $a x", 1<<15), "245 __" + strings.Repeat(" $a x", 20) + " $", "245 __" + strings.Repeat(" $a x", 20) + " ",
		strings.Repeat(" $", 1<<16), strings.Repeat("$", 1<<16), strings.Repeat(`\`, 1<<16), "245 __ $a " + strings.Repeat(`\`, 1<<16), strings.Repeat("2", 1<<16), strings.Repeat(" ", 1<<16),
	}
	return l
}

func TestP12_1ParseFields(t *testing.T) {
	const good = "100 __ $a y\n"
	for _, line := range wrongLines() {
		checkWrong(t, "record 7\n"+line+"\n", 1)
		checkWrong(t, "record 7\n"+line+"\n"+good, 1)
		checkWrong(t, "record 7\n"+good+line+"\n", 2)
		checkWrong(t, "record 7\n"+good+good+line+"\n"+good, 3)
		checkWrong(t, "record 7\n"+line, 1)
		if line != "" {
			checkWrong(t, "record 7\n"+good+line, 2)
		}
	}
	for line, want := range map[string]api.Field{
		"245 0_ $a x": field("245", "0 ", "ax"), "245 _0 $a x": field("245", " 0", "ax"), "245 az $a x": field("245", "az", "ax"), "001 __ $0 0 $0 0": field("001", "  ", "00", "00"), "999 09 $z x  y $9 _": field("999", "09", "zx  y", "9_"),
		`245 __ $a \$`: field("245", "  ", "a$"), `245 __ $a \\`: field("245", "  ", `a\`), `245 __ $a \\\$`: field("245", "  ", `a\$`), `245 __ $a \$\\`: field("245", "  ", `a$\`), `245 __ $a \\\\`: field("245", "  ", `a\\`), `245 __ $a x \$b y`: field("245", "  ", "ax $b y"), `245 __ $a x\\ $b y`: field("245", "  ", `ax\`, "by"), `245 __ $a \\\\\$b \$ \\ x`: field("245", "  ", `a\\$b $ \ x`), `245 __ $a a x b y`: field("245", "  ", "aa x b y"), "245 __ $a \u00A0": field("245", "  ", "a\u00A0"), "245 __ $a 245 __ \\$a x": field("245", "  ", "a245 __ $a x"),
		"245 __ $a " + strings.Repeat("x", 400): field("245", "  ", "a"+strings.Repeat("x", 400)), "245 __ $a " + strings.Repeat(`\\`, 400): field("245", "  ", "a"+strings.Repeat(`\`, 400)), "245 __" + strings.Repeat(" $a x", 20): field("245", "  ", slices.Repeat([]string{"ax"}, 20)...),
	} {
		checkParse(t, "record 7\n"+line+"\n", rec(7, want), 0, api.OK)
		checkParse(t, "record 7\n"+good+line+"\n", rec(7, field("100", "  ", "ay"), want), 0, api.OK)
		checkParse(t, "record 7\n"+line+"\n"+good, rec(7, want, field("100", "  ", "ay")), 0, api.OK)
		// the last line without line feed
		checkWrong(t, "record 7\n"+line, 1)
		checkWrong(t, "record 7\n"+good+line, 2)
		// an empty line behind the fields
		checkWrong(t, "record 7\n"+line+"\n\n", 2)
		checkWrong(t, "record 7\n"+line+"\n\n"+good, 2)
		checkWrong(t, "record 7\n"+line+"\nrecord 8\n"+good, 2)
		checkWrong(t, "record 7\n"+line+"\r\n"+good, 1)
	}
}

func TestP12_1ParseSixtyFields(t *testing.T) {
	r := rec(7, several(60, "245")...)
	s := modelPrint(r)
	checkParse(t, s, r, 0, api.OK)
	checkWrong(t, strings.TrimSuffix(s, "\n"), 60)
	for _, more := range []string{"245 __ $a x\n", "245 __ $a x", "\n", "x", "x\n", "245 __ $a x\n245 __ $a x\n", strings.Repeat("245 __ $a x\n", 1<<16)} {
		checkWrong(t, s+more, 61)
	}
	checkWrong(t, modelPrint(rec(7, r.Fields[:59]...))+"x\n"+"245 __ $a x\n", 60)
}

// spoilText returns a text with a small change.
func spoilText(g *rand.Rand, s string) string {
	parts := []string{"$", `\`, " ", "\n", "_", "a", "x", "2", "0", "\xFF", " $b ", "\n\n", "\n245 __ $a x\n", "record 7\n", "\t", "é", ""}
	for range 1 + g.Intn(2) {
		at := g.Intn(len(s) + 1)
		to := min(at+g.Intn(3), len(s))
		s = s[:at] + anyOf(g, parts) + s[to:]
	}
	if g.Intn(10) == 0 {
		s = s[:g.Intn(len(s)+1)]
	}
	return s
}

func TestP12_1ParseAny(t *testing.T) {
	g := rand.New(rand.NewSource(133))
	lines := map[int]int{}
	for range 20000 {
		s := modelPrint(anyRecord(g))
		if g.Intn(4) > 0 {
			s = spoilText(g, s)
		}
		want, wantLine, wantErr := modelParse(s)
		if checkParse(t, s, want, wantLine, wantErr); t.Failed() {
			return
		}
		if wantErr == api.OK {
			wantLine = -1
		}
		lines[wantLine]++
	}
	if len(lines) < 20 || lines[-1] < 4000 || lines[-1] > 15000 || lines[0] < 100 {
		t.Error("the texts are too much alike:", lines)
	}
}
