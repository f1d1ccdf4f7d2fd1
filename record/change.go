package record

import (
	"slices"

	"bookplate/api"
	"bookplate/repertoire"
)

// Add returns a record with a further field.
func Add(r api.Record, f api.Field) (api.Record, api.Errno) {
	switch {
	case !Valid(r):
		return api.Record{}, api.ErrArg
	case !ValidField(f):
		return api.Record{}, api.ErrField
	case len(r.Fields) == api.MaxFields:
		return api.Record{}, api.ErrLimit
	}
	at := slices.IndexFunc(r.Fields, func(other api.Field) bool { return other.Tag > f.Tag })
	if at < 0 {
		at = len(r.Fields)
	}
	own := copyRecord(r)
	own.Fields = slices.Insert(own.Fields, at, copyField(f))
	return own, api.OK
}

// Set returns a record in which a subfield has a value.
func Set(r api.Record, tag string, code byte, value string) (api.Record, api.Errno) {
	switch {
	case !Valid(r):
		return api.Record{}, api.ErrArg
	case !ValidTag(tag) || !validCode(code):
		return api.Record{}, api.ErrField
	case !repertoire.Valid(value):
		return api.Record{}, api.ErrText
	}
	sub := api.Sub{Code: code, Value: value}
	at := slices.IndexFunc(r.Fields, hasTag(tag))
	if at < 0 {
		return Add(r, api.Field{Tag: tag, Ind: [2]byte{' ', ' '}, Subs: []api.Sub{sub}})
	}
	own := copyRecord(r)
	f := &own.Fields[at]
	if i := slices.IndexFunc(f.Subs, func(s api.Sub) bool { return s.Code == code }); i >= 0 {
		f.Subs[i] = sub
		return own, api.OK
	}
	if len(f.Subs) == api.MaxSubs {
		return api.Record{}, api.ErrLimit
	}
	f.Subs = append(f.Subs, sub)
	return own, api.OK
}

// Drop returns a record without the fields with a tag.
func Drop(r api.Record, tag string) (api.Record, api.Errno) {
	switch {
	case !Valid(r):
		return api.Record{}, api.ErrArg
	case !ValidTag(tag):
		return api.Record{}, api.ErrField
	case !slices.ContainsFunc(r.Fields, hasTag(tag)):
		return api.Record{}, api.ErrNone
	}
	own := copyRecord(r)
	own.Fields = slices.DeleteFunc(own.Fields, hasTag(tag))
	if len(own.Fields) == 0 {
		return api.Record{}, api.ErrLimit
	}
	return own, api.OK
}

func hasTag(tag string) func(api.Field) bool {
	return func(f api.Field) bool { return f.Tag == tag }
}
