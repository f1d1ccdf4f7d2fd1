package wire_test

import (
	"bytes"
	"math/big"
	"math/rand"
	"slices"

	"bookplate/wire"
)

// The model follows the chapter word by word, with numbers of any size, and shares no code with the package.

const (
	least    = -1 << 63
	greatest = 1<<63 - 1
)

func modelFold(n int) *big.Int {
	x := new(big.Int).Mul(big.NewInt(int64(n)), big.NewInt(2))
	if n < 0 {
		x.Neg(x).Sub(x, big.NewInt(1))
	}
	return x
}

func modelInt(n int) []byte {
	x := modelFold(n)
	group := new(big.Int)
	x.QuoRem(x, big.NewInt(128), group)
	b := []byte{byte(group.Int64())}
	for x.Sign() > 0 {
		x.QuoRem(x, big.NewInt(128), group)
		b = append([]byte{byte(group.Int64()) + 128}, b...)
	}
	return b
}

func modelText(s string) []byte {
	return append(modelInt(len(s)), s...)
}

func modelInts(l []int) []byte {
	b := modelInt(len(l))
	for _, n := range l {
		b = append(b, modelInt(n)...)
	}
	return b
}

func modelTexts(l []string) []byte {
	b := modelInt(len(l))
	for _, s := range l {
		b = append(b, modelText(s)...)
	}
	return b
}

// modelReadInt returns the integer at the beginning of b, and the number of its bytes.
func modelReadInt(b []byte, lo, hi int) (n, size int, ok bool) {
	end := slices.IndexFunc(b, func(c byte) bool { return c < 128 })
	if end < 0 {
		return 0, 0, false
	}
	x := new(big.Int)
	for _, c := range b[:end+1] {
		x.Mul(x, big.NewInt(128)).Add(x, big.NewInt(int64(c%128)))
	}
	odd := x.Bit(0) == 1
	if odd {
		x.Add(x, big.NewInt(1)).Neg(x)
	}
	x.Quo(x, big.NewInt(2))
	if !x.IsInt64() {
		return 0, 0, false
	}
	n = int(x.Int64())
	if n < lo || n > hi || !bytes.Equal(modelInt(n), b[:end+1]) {
		return 0, 0, false
	}
	return n, end + 1, true
}

func modelReadText(b []byte, max int) (s string, size int, ok bool) {
	n, size, ok := modelReadInt(b, 0, greatest)
	if !ok || n > max || n > len(b)-size {
		return "", 0, false
	}
	return string(b[size : size+n]), size + n, true
}

func modelReadInts(b []byte, max, lo, hi int) (l []int, size int, ok bool) {
	count, size, ok := modelReadInt(b, 0, greatest)
	if !ok || count > max {
		return nil, 0, false
	}
	for range count {
		n, more, ok := modelReadInt(b[size:], lo, hi)
		if !ok {
			return nil, 0, false
		}
		l, size = append(l, n), size+more
	}
	return l, size, true
}

func modelReadTexts(b []byte, max, long int) (l []string, size int, ok bool) {
	count, size, ok := modelReadInt(b, 0, greatest)
	if !ok || count > max {
		return nil, 0, false
	}
	for range count {
		s, more, ok := modelReadText(b[size:], long)
		if !ok {
			return nil, 0, false
		}
		l, size = append(l, s), size+more
	}
	return l, size, true
}

// edges are integers around the places where the number of groups changes, and at both ends.
func edges() []int {
	l := []int{least, least + 1, greatest - 1, greatest, 0}
	for bits := 0; bits < 63; bits++ {
		n := 1 << bits
		l = append(l, n-1, n, n+1, -n-1, -n, -n+1)
	}
	slices.Sort(l)
	return slices.Compact(l)
}

func anyInt(g *rand.Rand) int {
	if g.Intn(2) == 0 {
		return g.Intn(9) - 4
	}
	return int(g.Uint64()) >> g.Intn(64)
}

func anyText(g *rand.Rand, max int) string {
	b := make([]byte, g.Intn(max+1))
	for i := range b {
		b[i] = byte(g.Intn(256))
	}
	return string(b)
}

// anyBytes prefers bytes that are likely to be a part of an encoding.
func anyBytes(g *rand.Rand) []byte {
	likely := []byte{0, 1, 2, 3, 4, 5, 6, 8, 126, 127, 128, 129, 130, 254, 255}
	b := make([]byte, g.Intn(16))
	for i := range b {
		b[i] = likely[g.Intn(len(likely))]
		if g.Intn(4) == 0 {
			b[i] = byte(g.Intn(256))
		}
	}
	return b
}

// A kind is a type of values: how a reader without narrow limits reads one and encodes it again.
type kind struct {
	name  string
	again func(r *wire.Reader) []byte
}

func kinds() []kind {
	return []kind{
		{"Int", func(r *wire.Reader) []byte { return wire.Int(nil, r.Int(least, greatest)) }},
		{"Bool", func(r *wire.Reader) []byte { return wire.Bool(nil, r.Bool()) }},
		{"Text", func(r *wire.Reader) []byte { return wire.Text(nil, r.Text(greatest)) }},
		{"Ints", func(r *wire.Reader) []byte { return wire.Ints(nil, r.Ints(greatest, least, greatest)) }},
		{"Texts", func(r *wire.Reader) []byte { return wire.Texts(nil, r.Texts(greatest, greatest)) }},
	}
}
