package digest_test

import (
	"math/bits"
	"math/rand"
)

// The model follows the chapter word by word, a bit at a time, and shares no code with the package.

const (
	least    = -1 << 63
	greatest = 1<<63 - 1
)

// modelBit returns the register behind one bit.
func modelBit(register uint32, bit byte) uint32 {
	if uint32(bit) != register%2 {
		return register/2 ^ 0x82F63B78
	}
	return register / 2
}

func modelMore(h uint32, b []byte) uint32 {
	register := 0xFFFFFFFF - h
	for _, c := range b {
		for range 8 {
			register = modelBit(register, c%2)
			c /= 2
		}
	}
	return 0xFFFFFFFF - register
}

func modelOf(b []byte) uint32 {
	return modelMore(0, b)
}

// modelJoin is only for small n.
func modelJoin(x, y uint32, n int) uint32 {
	if n < 0 {
		return 0
	}
	for range 8 * n {
		x = modelBit(x, 0)
	}
	return x ^ y
}

// modelFarJoin multiplies x, as a polynomial whose highest bit is the factor of 1, by the power 8n of X.
func modelFarJoin(x, y uint32, n int) uint32 {
	sum := uint64(bits.Reverse32(x))
	for power := uint64(1 << 8); n > 0; n /= 2 {
		if n%2 == 1 {
			sum = modelProduct(sum, power)
		}
		power = modelProduct(power, power)
	}
	return bits.Reverse32(uint32(sum)) ^ y
}

// modelProduct returns the product of two polynomials modulo that of CRC-32C, whose bits have the usual order here.
func modelProduct(a, b uint64) uint64 {
	var product uint64
	for i := range 32 {
		if b>>i%2 == 1 {
			product ^= a << i
		}
	}
	for i := 63; i >= 32; i-- {
		if product>>i%2 == 1 {
			product ^= 0x11EDC6F41 << (i - 32)
		}
	}
	return product
}

func modelSeal(b []byte) []byte {
	l := append([]byte(nil), b...)
	h := modelOf(b)
	for range 4 {
		l = append(l, byte(h%256))
		h /= 256
	}
	return l
}

func anyBytes(g *rand.Rand, max int) []byte {
	return bytesOf(g, g.Intn(max+1))
}

// bytesOf returns n bytes; in half of all cases they are mostly 0 or 255.
func bytesOf(g *rand.Rand, n int) []byte {
	b := make([]byte, n)
	sparse := g.Intn(2) == 0
	for i := range b {
		b[i] = byte(g.Intn(256))
		if sparse && g.Intn(4) > 0 {
			b[i] = byte(g.Intn(2) * 255)
		}
	}
	return b
}

// sums returns checksums that are likely to show an error.
func sums(g *rand.Rand) []uint32 {
	l := []uint32{0, 0xFFFFFFFF, 0x82F63B78, 0xE3069283}
	for bit := range 32 {
		l = append(l, 1<<bit)
	}
	for range 20 {
		l = append(l, g.Uint32())
	}
	return l
}

// add adds a pattern without carries to the bits of a copy of b, from a place on; the least significant bit of each byte is its first one. Bits behind the end are left out.
func add(b []byte, pattern uint32, place int) []byte {
	l := append([]byte(nil), b...)
	for i := range 32 {
		if at := place + i; at < 8*len(l) && pattern>>i%2 == 1 {
			l[at/8] ^= 1 << (at % 8)
		}
	}
	return l
}
