package record

import (
	"bytes"
	"math"

	"bookplate/api"
	"bookplate/wire"
)

// Encode returns the encoding of a record.
func Encode(r api.Record) ([]byte, api.Errno) {
	if !Valid(r) {
		return nil, api.ErrArg
	}
	b := wire.Int(nil, r.ID)
	b = wire.Int(b, len(r.Fields))
	for _, f := range r.Fields {
		b = appendField(b, f)
	}
	return b, api.OK
}

func appendField(b []byte, f api.Field) []byte {
	b = wire.Text(b, f.Tag)
	for _, c := range f.Ind {
		b = wire.Int(b, int(c))
	}
	b = wire.Int(b, len(f.Subs))
	for _, s := range f.Subs {
		b = wire.Int(b, int(s.Code))
		b = wire.Text(b, s.Value)
	}
	return b
}

// Decode returns the record with an encoding.
func Decode(b []byte) (api.Record, api.Errno) {
	from := wire.From(b)
	r := api.Record{ID: from.Int(1, api.MaxID)}
	for range from.Int(1, api.MaxFields) {
		r.Fields = append(r.Fields, readField(from))
	}
	if from.Done() != api.OK || !Valid(r) {
		return api.Record{}, api.ErrForm
	}
	return r, api.OK
}

func readField(from *wire.Reader) api.Field {
	f := api.Field{Tag: from.Text(tagSize)}
	for i := range f.Ind {
		f.Ind[i] = readByte(from)
	}
	for range from.Int(1, api.MaxSubs) {
		s := api.Sub{Code: readByte(from)}
		s.Value = from.Text(api.MaxText)
		f.Subs = append(f.Subs, s)
	}
	return f
}

func readByte(from *wire.Reader) byte {
	return byte(from.Int(0, math.MaxUint8))
}

// Compare compares the encodings of two records.
func Compare(a, b api.Record) int {
	x, _ := Encode(a)
	y, _ := Encode(b)
	return bytes.Compare(x, y)
}
