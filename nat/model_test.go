package nat_test

import (
	"fmt"
	"math/big"
	"math/rand"
	"testing"

	"bookplate/api"
	"bookplate/nat"
)

// The model computes with math/big, and shares no code with the package.

const (
	least    = -1 << 63
	greatest = 1<<63 - 1
)

// bigOf returns the number of any digits from 0 to 65535.
func bigOf(a nat.Nat) *big.Int {
	n := new(big.Int)
	for i := len(a) - 1; i >= 0; i-- {
		n.Add(n.Mul(n, big.NewInt(65536)), big.NewInt(int64(a[i])))
	}
	return n
}

// natOf returns the digits of a number of any size.
func natOf(n *big.Int) nat.Nat {
	var a nat.Nat
	for i := 0; i < n.BitLen(); i += 16 {
		digit := 0
		for j := range 16 {
			digit += int(n.Bit(i+j)) << j
		}
		a = append(a, digit)
	}
	return a
}

func powerOfTwo(n int) *big.Int {
	return new(big.Int).Lsh(big.NewInt(1), uint(n))
}

// number returns 2^n + d.
func number(n, d int) nat.Nat {
	return natOf(new(big.Int).Add(powerOfTwo(n), big.NewInt(int64(d))))
}

// fits tells whether a number has at most 128 digits.
func fits(n *big.Int) bool {
	return n.BitLen() <= 2048
}

// modelLimited returns the digits of a result, or the error of one that is too large.
func modelLimited(n *big.Int) (nat.Nat, api.Errno) {
	if !fits(n) {
		return nil, api.ErrLimit
	}
	return natOf(n), api.OK
}

func modelAdd(a, b *big.Int) (nat.Nat, api.Errno) {
	return modelLimited(new(big.Int).Add(a, b))
}

func modelSub(a, b *big.Int) (nat.Nat, api.Errno) {
	if a.Cmp(b) < 0 {
		return nil, api.ErrRange
	}
	return modelLimited(new(big.Int).Sub(a, b))
}

func modelMul(a, b *big.Int) (nat.Nat, api.Errno) {
	return modelLimited(new(big.Int).Mul(a, b))
}

func modelGcd(a, b *big.Int) (nat.Nat, api.Errno) {
	return modelLimited(new(big.Int).GCD(nil, nil, a, b))
}

func modelPower(a *big.Int, n int) (nat.Nat, api.Errno) {
	if n < 0 || n > 1000 {
		return nil, api.ErrRange
	}
	power := big.NewInt(1)
	for range n {
		if power.Mul(power, a); !fits(power) {
			return nil, api.ErrLimit
		}
	}
	return natOf(power), api.OK
}

func modelShift(a *big.Int, n int) (nat.Nat, api.Errno) {
	if n < 0 || n > 2047 {
		return nil, api.ErrRange
	}
	return modelLimited(new(big.Int).Lsh(a, uint(n)))
}

func equal(a, b nat.Nat) bool {
	if len(a) != len(b) {
		return false
	}
	for i := range a {
		if a[i] != b[i] {
			return false
		}
	}
	return true
}

// anyOfLength returns a number with n digits, many of them, in half of all cases, the least or the greatest ones.
func anyOfLength(g *rand.Rand, n int) nat.Nat {
	a := make(nat.Nat, n)
	edge := g.Intn(2) == 0
	for i := range a {
		a[i] = g.Intn(65536)
		if edge && g.Intn(4) > 0 {
			a[i] = []int{0, 0, 1, 32767, 32768, 65534, 65535, 65535}[g.Intn(8)]
		}
	}
	if n > 0 && a[n-1] == 0 {
		a[n-1] = 1 + g.Intn(3)
	}
	return a
}

func anyNat(g *rand.Rand, max int) nat.Nat {
	return anyOfLength(g, g.Intn(max+1))
}

// anyPair returns numbers of which one has often about the length of the other one.
func anyPair(g *rand.Rand, max int) (a, b nat.Nat) {
	a, b = anyNat(g, max), anyNat(g, max)
	switch g.Intn(8) {
	case 0:
		b = anyOfLength(g, len(a))
	case 1:
		b = append(nat.Nat(nil), a...)
	case 2:
		if b = append(nat.Nat(nil), a...); len(b) > 0 {
			b[0] = g.Intn(65536)
		}
		b = natOf(bigOf(b))
	case 3:
		b = anyNat(g, 2)
	}
	if g.Intn(2) == 0 {
		return b, a
	}
	return a, b
}

// edges returns numbers that are likely to show an error.
func edges() []nat.Nat {
	l := []nat.Nat{nil, {1}, {2}, {3}, {9}, {10}, {65534}, {65535}, {0, 1}, {1, 1}, {65535, 1}, {0, 65535}, {0, 0, 65535}, natOf(big.NewInt(999999999)), natOf(big.NewInt(1000000000))}
	for _, n := range []int{15, 17, 31, 32, 33, 48, 61, 62, 63, 64, 65, 80, 128, 1008, 1023, 1024, 1025, 2031, 2032, 2033, 2047} {
		l = append(l, number(n, -1), number(n, 0), number(n, 1))
	}
	return append(l, number(2048, -2), number(2048, -1), nat.Nat{65535, 0, 0, 1}, nat.Nat{0, 0, 65535, 65535, 1}, nat.Nat{1, 0, 0, 0, 32768})
}

// manyDigits is valid but for its length.
func manyDigits(n int) nat.Nat {
	a := make(nat.Nat, n)
	for i := range a {
		a[i] = 1
	}
	return a
}

// invalid returns lists of digits that are not valid.
func invalid() []nat.Nat {
	l := []nat.Nat{
		{0}, {0, 0}, {1, 0}, {65535, 65535, 0}, {-1}, {65536}, {-1, 1}, {65536, 1}, {1, -1}, {1, 65536}, {1, -1, 1}, {1, 65536, 1}, {0, 1, 0},
		{least}, {greatest}, {1, least, 1}, {greatest, 1}, {1 << 32}, {1<<32 + 1}, {-65536}, {-65535}, {5, -65536, 5},
		manyDigits(129), manyDigits(130), manyDigits(1 << 20), make(nat.Nat, 128), make(nat.Nat, 129), make(nat.Nat, 1<<20),
	}
	for _, digit := range []int{-1, 65536} {
		for _, place := range []int{0, 64, 127} {
			a := manyDigits(128)
			a[place] = digit
			l = append(l, a)
		}
	}
	last := manyDigits(128)
	last[127] = 0
	return append(l, last)
}

func name(a nat.Nat) string {
	if len(a) > 300 {
		return fmt.Sprintf("%v ... (%d digits)", []int(a[:300]), len(a))
	}
	return fmt.Sprintf("%v", []int(a))
}

// check fails if a result differs from the specified one; call describes the call.
func check(t *testing.T, got nat.Nat, e api.Errno, want nat.Nat, wantE api.Errno, call string, arguments ...any) {
	t.Helper()
	if e == wantE && equal(got, want) {
		return
	}
	for i, x := range arguments {
		if a, ok := x.(nat.Nat); ok {
			arguments[i] = name(a)
		}
	}
	t.Fatalf("%s%v = %s, %s, want %s, %s", call, arguments, name(got), api.Name(e), name(want), api.Name(wantE))
}

// must returns the result of a call without an error.
func must(t *testing.T) func(a nat.Nat, e api.Errno) nat.Nat {
	return func(a nat.Nat, e api.Errno) nat.Nat {
		t.Helper()
		if e != api.OK {
			t.Fatalf("the error %s", api.Name(e))
		}
		return a
	}
}
