package record

import (
	"strconv"
	"strings"

	"bookplate/api"
)

// Print returns the text of a record.
func Print(r api.Record) (string, api.Errno) {
	if !Valid(r) {
		return "", api.ErrArg
	}
	var b strings.Builder
	b.WriteString(recordLine(r.ID))
	for _, f := range r.Fields {
		b.WriteString(fieldLine(f))
	}
	return b.String(), api.OK
}

func recordLine(id int) string {
	return "record " + strconv.Itoa(id) + "\n"
}

func fieldLine(f api.Field) string {
	line := f.Tag + " " + printIndicators(f.Ind)
	for _, s := range f.Subs {
		line += " $" + string(s.Code) + " " + escape(s.Value)
	}
	return line + "\n"
}

func printIndicators(ind [2]byte) string {
	return strings.ReplaceAll(string(ind[:]), " ", "_")
}

func escape(value string) string {
	return strings.ReplaceAll(strings.ReplaceAll(value, `\`, `\\`), "$", `\$`)
}

// Parse returns the record with a text.
func Parse(s string) (r api.Record, line int, e api.Errno) {
	first, rest := cutLine(s)
	id, ok := parseID(first)
	if !ok {
		return api.Record{}, 0, api.ErrSyntax
	}
	r.ID = id
	for rest != "" || len(r.Fields) == 0 {
		first, rest = cutLine(rest)
		f, ok := parseField(first)
		if !ok || len(r.Fields) == api.MaxFields {
			return api.Record{}, len(r.Fields) + 1, api.ErrSyntax
		}
		r.Fields = append(r.Fields, f)
	}
	return r, 0, api.OK
}

// cutLine returns the first line with its line feed, and what is behind it. Without a line feed, the line is empty: it is wrong in any case.
func cutLine(s string) (line, rest string) {
	end := strings.IndexByte(s, '\n') + 1
	return s[:end], s[end:]
}

// A line is read without much care, and then compared with that of what was read: exactly if both are the same, it was a right one.

func parseID(line string) (int, bool) {
	digits := strings.TrimSuffix(strings.TrimPrefix(line, "record "), "\n")
	id, err := strconv.Atoi(digits)
	return id, err == nil && between(1, id, api.MaxID) && recordLine(id) == line
}

func parseField(line string) (f api.Field, ok bool) {
	// In a value, there is a \ ahead of each $, so that a space and a $ begin a subfield. One part more than a field may have is enough to see that there are too many.
	parts := strings.SplitN(strings.TrimSuffix(line, "\n"), " $", 1+api.MaxSubs+1)
	tag, ind, _ := strings.Cut(parts[0], " ")
	f.Tag = tag
	copy(f.Ind[:], strings.ReplaceAll(ind, "_", " "))
	for _, part := range parts[1:] {
		code, value, _ := strings.Cut(part, " ")
		if len(code) != 1 {
			return api.Field{}, false
		}
		f.Subs = append(f.Subs, api.Sub{Code: code[0], Value: unescape(value)})
	}
	return f, ValidField(f) && fieldLine(f) == line
}

// unescape undoes the steps of escape, the last one first.
func unescape(s string) string {
	return strings.ReplaceAll(strings.ReplaceAll(s, `\$`, "$"), `\\`, `\`)
}
