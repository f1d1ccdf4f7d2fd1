package record_test

import (
	"fmt"
	"math/rand"
	"reflect"
	"regexp"
	"slices"
	"strconv"
	"strings"

	"bookplate/api"
	rep "bookplate/repertoire"
)

// The model finds out what is valid, and what is a line, by patterns; it changes records by putting them together anew, and makes bytes by arithmetic. What a text is, is asked of layer 4.

const (
	least    = -1 << 63
	greatest = 1<<63 - 1
)

func anyOf[T any](g *rand.Rand, l []T) T {
	return l[g.Intn(len(l))]
}

// same reports whether two records are the same; nil and empty lists are.
func same(a, b api.Record) bool {
	return a.ID == b.ID && sameFields(a.Fields, b.Fields)
}

func sameFields(l, m []api.Field) bool {
	return slices.EqualFunc(l, m, func(f, g api.Field) bool {
		return f.Tag == g.Tag && f.Ind == g.Ind && len(f.Subs) == len(g.Subs) && (len(f.Subs) == 0 || reflect.DeepEqual(f.Subs, g.Subs))
	})
}

func show(r api.Record) string {
	return fmt.Sprint("record ", r.ID, showFields(r.Fields))
}

func showFields(l []api.Field) string {
	s := ""
	for _, f := range l {
		s += fmt.Sprintf(" | %q %q", f.Tag, f.Ind[:])
		for _, sub := range f.Subs {
			s += fmt.Sprintf(" %q:%+q", sub.Code, sub.Value)
		}
	}
	return s
}

// field returns a field; ind has both indicators, and each of subs a code and a value.
func field(tag, ind string, subs ...string) api.Field {
	f := api.Field{Tag: tag, Ind: [2]byte([]byte(ind))}
	for _, s := range subs {
		f.Subs = append(f.Subs, api.Sub{Code: s[0], Value: s[1:]})
	}
	return f
}

func rec(id int, fields ...api.Field) api.Record {
	return api.Record{ID: id, Fields: fields}
}

// several returns n different fields with a tag.
func several(n int, tag string) []api.Field {
	var l []api.Field
	for i := range n {
		l = append(l, field(tag, "  ", "a"+strconv.Itoa(i)))
	}
	return l
}

// fullField returns a field with 20 subfields, none of which has the code z.
func fullField(tag string) api.Field {
	f := api.Field{Tag: tag, Ind: [2]byte{' ', ' '}}
	for i := range 20 {
		f.Subs = append(f.Subs, api.Sub{Code: byte('a' + i), Value: strconv.Itoa(i)})
	}
	return f
}

// Records of any kind.

func anyTag(g *rand.Rand) string {
	if g.Intn(8) == 0 {
		return fmt.Sprintf("%03d", 1+g.Intn(999))
	}
	return anyOf(g, []string{"020", "100", "245", "245", "245", "650", "650", "700", "852", "001", "010", "999"})
}

func anyCode(g *rand.Rand) byte {
	return anyOf(g, []byte("aaaabbc0z9x"))
}

// anyValue returns a text; many have characters that are written in a special way, or look like parts of lines.
func anyValue(g *rand.Rand) string {
	if g.Intn(3) == 0 {
		for range 5 {
			l := make([]string, 1+g.Intn(8))
			for i := range l {
				l[i] = anyOf(g, []string{"$", `\`, " ", "a", "_", "é", "\u0301", "\u00A0", "ж", "$a ", " $b ", `\$`, `\\`, "record 7", "0"})
			}
			if s := strings.Join(l, ""); rep.Valid(s) {
				return s
			}
		}
	}
	if g.Intn(100) == 0 {
		return strings.Repeat(anyOf(g, []string{"xx", "é", "$$", `\$`, "$x"}), 200)
	}
	return anyOf(g, []string{"x", "y", "z", "Łódź", "Price in $", "$", `\`, `a\`, `\$a x`, "245 0_ $a x", "_", "$$$", `\\\`, "\u00A0", "1984", "Война и мир"})
}

func anyField(g *rand.Rand) api.Field {
	f := api.Field{Tag: anyTag(g)}
	for i := range f.Ind {
		f.Ind[i] = anyOf(g, []byte("   0149az"))
	}
	n := 1 + g.Intn(4)
	if g.Intn(12) == 0 {
		n = 19 + g.Intn(2)
	}
	for range n {
		f.Subs = append(f.Subs, api.Sub{Code: anyCode(g), Value: anyValue(g)})
	}
	return f
}

// anyRecord returns a valid record.
func anyRecord(g *rand.Rand) api.Record {
	r := api.Record{ID: anyOf(g, []int{1, 2, 7, 63, 64, 999999999, 1000000000, 1 + g.Intn(1000000000)})}
	n := 1 + g.Intn(7)
	if g.Intn(20) == 0 {
		n = 58 + g.Intn(3)
	}
	for range n {
		r.Fields = append(r.Fields, anyField(g))
	}
	return r
}

// anyCanonical returns a valid record that is canonical.
func anyCanonical(g *rand.Rand) api.Record {
	return modelCanonical(anyRecord(g))
}

// wrongTags, wrongIndicators, wrongCodes and wrongValues are not valid.

func wrongTags() []string {
	return []string{"", "0", "2", "24", "2450", "000", "0000", "00", "24a", "a45", "2a5", "24 ", " 24", "2 4", "abc", "-24", "+24", "24\x00", "24/", "24:", "/24", ":24", "２４５", "24²", "24\xFF", "LDR", strings.Repeat("1", 1000)}
}

func wrongIndicators() []byte {
	return []byte("_A\x00\t\n-/:`{$\\!\x1F\x7F\x80\xA0\xFF")
}

func wrongCodes() []byte {
	return []byte(" _A\x00\t\n-/:`{$\\!\x1F\x7F\x80\xA0\xFF")
}

func wrongValues() []string {
	return []string{"", " ", " x", "x ", "  ", "x\n", "\n", "x\ny", "\t", "x\x00", "\x1F", "\x80", "x\xFF", "\xC3", "\u2019", "中", strings.Repeat("x", 401), strings.Repeat("é", 200) + "x", strings.Repeat("x", 1<<17)}
}

// spoil returns a valid record with a change that makes it not valid.
func spoil(g *rand.Rand, r api.Record) api.Record {
	r = modelCopy(r)
	f := &r.Fields[g.Intn(len(r.Fields))]
	s := &f.Subs[g.Intn(len(f.Subs))]
	switch g.Intn(9) {
	case 0:
		r.ID = anyOf(g, []int{0, -1, -7, 1000000001, least, greatest, 1 << 32, 1<<32 + 1})
	case 1:
		r.Fields = nil
	case 2:
		for len(r.Fields) < 61 {
			r.Fields = append(r.Fields, anyField(g))
		}
	case 3:
		f.Tag = anyOf(g, wrongTags())
	case 4:
		f.Ind[g.Intn(2)] = anyOf(g, wrongIndicators())
	case 5:
		f.Subs = nil
	case 6:
		for len(f.Subs) < 21 {
			f.Subs = append(f.Subs, *s)
		}
	case 7:
		s.Code = anyOf(g, wrongCodes())
	case 8:
		s.Value = anyOf(g, wrongValues())
	}
	return r
}

// anything returns a record that need not be valid, with few different tags and codes.
func anything(g *rand.Rand) api.Record {
	if g.Intn(4) > 0 {
		r := anyRecord(g)
		if g.Intn(2) == 0 {
			r = spoil(g, r)
		}
		return r
	}
	r := api.Record{ID: anyOf(g, []int{0, 1, -1, least, greatest})}
	for range g.Intn(6) {
		f := api.Field{Tag: anyOf(g, []string{"", "a", "b", "245", "24", "\xFF", "Z"}), Ind: [2]byte{byte(g.Intn(2)), byte(g.Intn(256))}}
		for range g.Intn(4) {
			f.Subs = append(f.Subs, api.Sub{Code: anyOf(g, []byte{0, 'a', ' ', 0xFF}), Value: anyOf(g, []string{"", " ", "x", "\xFF", "\n"})})
		}
		r.Fields = append(r.Fields, f)
	}
	return r
}

// The model of the functions.

var (
	tagPattern       = regexp.MustCompile(`^[0-9]{3}$`)
	indicatorPattern = regexp.MustCompile(`^[ 0-9a-z]$`)
	codePattern      = regexp.MustCompile(`^[0-9a-z]$`)
)

func modelTag(s string) bool {
	return tagPattern.MatchString(s) && s != "000"
}

func modelField(f api.Field) bool {
	ok := modelTag(f.Tag) && len(f.Subs) > 0 && len(f.Subs) < 21
	for _, c := range f.Ind {
		ok = ok && indicatorPattern.Match([]byte{c})
	}
	for _, s := range f.Subs {
		ok = ok && codePattern.Match([]byte{s.Code}) && rep.Valid(s.Value)
	}
	return ok
}

func modelValid(r api.Record) bool {
	ok := r.ID > 0 && r.ID <= 1000*1000*1000 && len(r.Fields) > 0 && len(r.Fields) < 61
	for _, f := range r.Fields {
		ok = ok && modelField(f)
	}
	return ok
}

func modelCopy(r api.Record) api.Record {
	c := api.Record{ID: r.ID, Fields: slices.Clone(r.Fields)}
	for i := range c.Fields {
		c.Fields[i].Subs = slices.Clone(c.Fields[i].Subs)
	}
	return c
}

// modelIsCanonical compares each field with each one behind it.
func modelIsCanonical(r api.Record) bool {
	for i, f := range r.Fields {
		for _, behind := range r.Fields[i:] {
			if strings.Compare(behind.Tag, f.Tag) < 0 {
				return false
			}
		}
	}
	return true
}

// modelCanonical takes the fields of the least tag first, then those of the next one.
func modelCanonical(r api.Record) api.Record {
	byTag := map[string][]api.Field{}
	var tags []string
	for _, f := range modelCopy(r).Fields {
		if byTag[f.Tag] == nil {
			tags = append(tags, f.Tag)
		}
		byTag[f.Tag] = append(byTag[f.Tag], f)
	}
	slices.Sort(tags)
	c := api.Record{ID: r.ID}
	for _, tag := range tags {
		c.Fields = append(c.Fields, byTag[tag]...)
	}
	return c
}

func modelFields(r api.Record, tag string) []api.Field {
	return slices.DeleteFunc(modelCopy(r).Fields, func(f api.Field) bool { return f.Tag != tag })
}

func modelGet(r api.Record, tag string, code byte) []string {
	var values []string
	for _, f := range modelFields(r, tag) {
		for _, s := range f.Subs {
			if s.Code == code {
				values = append(values, s.Value)
			}
		}
	}
	return values
}

func modelAdd(r api.Record, f api.Field) (api.Record, api.Errno) {
	if !modelValid(r) {
		return api.Record{}, api.ErrArg
	}
	if !modelField(f) {
		return api.Record{}, api.ErrField
	}
	if len(r.Fields) > 59 {
		return api.Record{}, api.ErrLimit
	}
	made, placed := api.Record{ID: r.ID}, false
	for _, other := range modelCopy(r).Fields {
		if !placed && strings.Compare(f.Tag, other.Tag) < 0 {
			made.Fields, placed = append(made.Fields, f), true
		}
		made.Fields = append(made.Fields, other)
	}
	if !placed {
		made.Fields = append(made.Fields, f)
	}
	return modelCopy(made), api.OK
}

func modelSet(r api.Record, tag string, code byte, value string) (api.Record, api.Errno) {
	if !modelValid(r) {
		return api.Record{}, api.ErrArg
	}
	if !modelTag(tag) || !codePattern.Match([]byte{code}) {
		return api.Record{}, api.ErrField
	}
	if !rep.Valid(value) {
		return api.Record{}, api.ErrText
	}
	made := modelCopy(r)
	for i, f := range made.Fields {
		if f.Tag != tag {
			continue
		}
		for k := range f.Subs {
			if f.Subs[k].Code == code {
				f.Subs[k].Value = value
				return made, api.OK
			}
		}
		if len(f.Subs) > 19 {
			return api.Record{}, api.ErrLimit
		}
		made.Fields[i].Subs = append(f.Subs, api.Sub{Code: code, Value: value})
		return made, api.OK
	}
	return modelAdd(r, field(tag, "  ", string([]byte{code})+value))
}

func modelDrop(r api.Record, tag string) (api.Record, api.Errno) {
	if !modelValid(r) {
		return api.Record{}, api.ErrArg
	}
	if !modelTag(tag) {
		return api.Record{}, api.ErrField
	}
	made := api.Record{ID: r.ID}
	for _, f := range modelCopy(r).Fields {
		if f.Tag != tag {
			made.Fields = append(made.Fields, f)
		}
	}
	switch len(made.Fields) {
	case len(r.Fields):
		return api.Record{}, api.ErrNone
	case 0:
		return api.Record{}, api.ErrLimit
	}
	return made, api.OK
}

// modelInt returns the encoding of an integer that is not negative, in groups of seven bits.
func modelInt(n int) string {
	n *= 2
	s := string([]byte{byte(n % 128)})
	for n /= 128; n > 0; n /= 128 {
		s = string([]byte{byte(128 + n%128)}) + s
	}
	return s
}

func modelEncode(r api.Record) string {
	if !modelValid(r) {
		return ""
	}
	s := modelInt(r.ID) + modelInt(len(r.Fields))
	for _, f := range r.Fields {
		s += modelInt(3) + f.Tag + modelInt(int(f.Ind[0])) + modelInt(int(f.Ind[1])) + modelInt(len(f.Subs))
		for _, sub := range f.Subs {
			s += modelInt(int(sub.Code)) + modelInt(len(sub.Value)) + sub.Value
		}
	}
	return s
}

// modelDecode reads what it can, and accepts it if it has exactly this encoding.
func modelDecode(s string) (api.Record, bool) {
	whole := s
	number := func() int {
		n := 0
		for len(s) > 0 {
			c := s[0]
			s = s[1:]
			n = n*128 + int(c%128)
			if c < 128 || n > 1<<40 {
				break
			}
		}
		return n / 2
	}
	text := func() string {
		n := number()
		n = min(n, len(s))
		t := s[:n]
		s = s[n:]
		return t
	}
	r := api.Record{ID: number()}
	for range min(number(), 100) {
		f := api.Field{Tag: text(), Ind: [2]byte{byte(number()), byte(number())}}
		for range min(number(), 100) {
			code := byte(number())
			f.Subs = append(f.Subs, api.Sub{Code: code, Value: text()})
		}
		r.Fields = append(r.Fields, f)
	}
	if !modelValid(r) || modelEncode(r) != whole {
		return api.Record{}, false
	}
	return r, true
}

func modelPrint(r api.Record) string {
	if !modelValid(r) {
		return ""
	}
	var s strings.Builder
	fmt.Fprintf(&s, "record %d\n", r.ID)
	for _, f := range r.Fields {
		s.WriteString(f.Tag + " ")
		for _, c := range f.Ind {
			if c == ' ' {
				c = '_'
			}
			s.WriteByte(c)
		}
		for _, sub := range f.Subs {
			fmt.Fprintf(&s, " $%c ", sub.Code)
			for _, c := range sub.Value {
				if c == '$' || c == '\\' {
					s.WriteByte('\\')
				}
				s.WriteRune(c)
			}
		}
		s.WriteByte('\n')
	}
	return s.String()
}

var (
	idLine    = regexp.MustCompile(`^record ([1-9][0-9]{0,9})\n$`)
	fieldLine = regexp.MustCompile(`^([0-9]{3}) ([_0-9a-z])([_0-9a-z])((?: \$[0-9a-z] (?:[^\\$\n]|\\[\\$])+)+)\n$`)
	subStart  = regexp.MustCompile(` \$([0-9a-z]) `)
	escaped   = regexp.MustCompile(`\\([\\$])`)
)

// modelLine returns the valid field with a line.
func modelLine(line string) (api.Field, bool) {
	m := fieldLine.FindStringSubmatch(line)
	if m == nil {
		return api.Field{}, false
	}
	f := api.Field{Tag: m[1], Ind: [2]byte([]byte(strings.ReplaceAll(m[2]+m[3], "_", " ")))}
	codes := subStart.FindAllStringSubmatch(m[4], -1)
	for i, value := range subStart.Split(m[4], -1)[1:] {
		f.Subs = append(f.Subs, api.Sub{Code: codes[i][1][0], Value: escaped.ReplaceAllString(value, "$1")})
	}
	return f, modelField(f)
}

func modelParse(s string) (r api.Record, line int, e api.Errno) {
	for i, text := range strings.SplitAfter(s, "\n") {
		if i == 0 {
			m := idLine.FindStringSubmatch(text)
			if m == nil {
				return api.Record{}, 0, api.ErrSyntax
			}
			if r.ID, _ = strconv.Atoi(m[1]); r.ID > 1000000000 {
				return api.Record{}, 0, api.ErrSyntax
			}
			continue
		}
		if text == "" && i > 1 {
			break
		}
		f, ok := modelLine(text)
		if !ok || i > 60 {
			return api.Record{}, i, api.ErrSyntax
		}
		r.Fields = append(r.Fields, f)
	}
	return r, 0, api.OK
}
