package nat_test

import (
	"math/big"
	"math/rand"
	"strconv"
	"strings"
	"testing"

	"bookplate/api"
	"bookplate/nat"
)

// same fails if two ways to the same number, each with an error or none, differ.
// A way with an error on it leads nowhere.
func same(t *testing.T, x nat.Nat, xe api.Errno, y nat.Nat, ye api.Errno, numbers ...nat.Nat) {
	t.Helper()
	if xe == ye && equal(x, y) {
		return
	}
	var l []string
	for _, a := range numbers {
		l = append(l, name(a))
	}
	t.Fatalf("%s: %s, %s, and %s, %s", strings.Join(l, ", "), name(x), api.Name(xe), name(y), api.Name(ye))
}

// then applies a function to a number and the result of a call, if there was no error.
func then(f func(a, b nat.Nat) (nat.Nat, api.Errno), a nat.Nat) func(b nat.Nat, e api.Errno) (nat.Nat, api.Errno) {
	return func(b nat.Nat, e api.Errno) (nat.Nat, api.Errno) {
		if e != api.OK {
			return nil, e
		}
		return f(a, b)
	}
}

// triples calls f with edges and with random numbers, whose product is often less than the limit.
func triples(seed int64, f func(a, b, c nat.Nat)) {
	few := []nat.Nat{nil, {1}, {2}, {65535}, {0, 1}, number(63, -1), number(700, 1), number(1024, -1), number(1024, 0), number(2047, 0), number(2048, -1)}
	for _, a := range few {
		for _, b := range few {
			for _, c := range few {
				f(a, b, c)
			}
		}
	}
	g := rand.New(rand.NewSource(seed))
	for i := range 3000 {
		max := []int{3, 42, 43, 64, 128}[i%5]
		a, b := anyPair(g, max)
		f(a, b, anyNat(g, max))
	}
}

// P3.2

func TestP3_2Examples(t *testing.T) {
	get := must(t)
	a, b := nat.Nat{65535, 65535}, nat.Nat{1}
	if sum := get(nat.Add(a, b)); !equal(sum, nat.Nat{0, 0, 1}) || !equal(get(nat.Sub(sum, b)), a) || !equal(get(nat.Sub(sum, a)), b) {
		t.Error(sum)
	}
	if product := get(nat.Mul(a, a)); !equal(product, nat.Nat{1, 0, 65534, 65535}) {
		t.Error(product)
	}
}

func TestP3_2Commutative(t *testing.T) {
	triples(20, func(a, b, _ nat.Nat) {
		x, xe := nat.Add(a, b)
		y, ye := nat.Add(b, a)
		same(t, x, xe, y, ye, a, b)
		x, xe = nat.Mul(a, b)
		y, ye = nat.Mul(b, a)
		same(t, x, xe, y, ye, a, b)
	})
}

// Products of 0 with what is too large are the only ones for which one way has an error and the other one has none.
func TestP3_2Associative(t *testing.T) {
	triples(21, func(a, b, c nat.Nat) {
		x, xe := then(nat.Add, c)(nat.Add(a, b))
		y, ye := then(nat.Add, a)(nat.Add(b, c))
		same(t, x, xe, y, ye, a, b, c)
		x, xe = then(nat.Mul, c)(nat.Mul(a, b))
		y, ye = then(nat.Mul, a)(nat.Mul(b, c))
		if xe == ye || len(a) > 0 && len(c) > 0 {
			same(t, x, xe, y, ye, a, b, c)
		}
	})
}

func TestP3_2Distributive(t *testing.T) {
	triples(22, func(a, b, c nat.Nat) {
		if len(a) == 0 {
			return // the sum of b and c may be too large, its product with 0 is not
		}
		x, xe := then(nat.Mul, a)(nat.Add(b, c))
		product, e := nat.Mul(a, b)
		y, ye := nat.Mul(a, c)
		if e != api.OK {
			y, ye = nil, e
		} else {
			y, ye = then(nat.Add, product)(y, ye)
		}
		same(t, x, xe, y, ye, a, b, c)
	})
}

func TestP3_2SubUndoesAdd(t *testing.T) {
	triples(23, func(a, b, _ nat.Nat) {
		if sum, e := nat.Add(a, b); e == api.OK {
			x, xe := nat.Sub(sum, a)
			same(t, x, xe, b, api.OK, a, b)
			x, xe = nat.Sub(sum, b)
			same(t, x, xe, a, api.OK, a, b)
		}
		if difference, e := nat.Sub(a, b); e == api.OK {
			x, xe := nat.Add(difference, b)
			same(t, x, xe, a, api.OK, a, b)
		}
	})
}

func TestP3_2Neutral(t *testing.T) {
	for _, a := range edges() {
		for _, f := range []func() (nat.Nat, api.Errno){
			func() (nat.Nat, api.Errno) { return nat.Add(a, nil) },
			func() (nat.Nat, api.Errno) { return nat.Sub(a, nil) },
			func() (nat.Nat, api.Errno) { return nat.Mul(a, nat.Nat{1}) },
		} {
			x, xe := f()
			same(t, x, xe, a, api.OK, a)
		}
	}
}

// P3.3

func checkDivision(t *testing.T, a, b nat.Nat) {
	t.Helper()
	q, r, e := nat.Divide(a, b)
	if len(b) == 0 {
		if len(q) != 0 || len(r) != 0 || e != api.ErrArg {
			t.Fatalf("%s is divided by 0", name(a))
		}
		return
	}
	if e != api.OK || nat.Compare(r, b) >= 0 || !nat.Valid(r) {
		t.Fatalf("dividing %s by %s leaves %s, %s", name(a), name(b), name(r), api.Name(e))
	}
	x, xe := then(nat.Add, r)(nat.Mul(b, q))
	same(t, x, xe, a, api.OK, a, b)
}

func TestP3_3Division(t *testing.T) {
	triples(30, func(a, b, _ nat.Nat) {
		checkDivision(t, a, b)
	})
	for _, a := range edges() {
		for _, b := range edges() {
			checkDivision(t, a, b)
		}
	}
}

func TestP3_3DivisionOfMultiples(t *testing.T) {
	triples(31, func(a, b, c nat.Nat) {
		product, e := nat.Mul(a, b)
		if e != api.OK || len(b) == 0 {
			return
		}
		q, r, e := nat.Divide(product, b)
		same(t, q, e, a, api.OK, a, b)
		same(t, r, e, nil, api.OK, a, b)
		if nat.Compare(c, b) >= 0 {
			return
		}
		if sum, e := nat.Add(product, c); e == api.OK {
			q, r, e = nat.Divide(sum, b)
			same(t, q, e, a, api.OK, a, b, c)
			same(t, r, e, c, api.OK, a, b, c)
		}
	})
}

// P3.4

func TestP3_4PowersAreMultiplied(t *testing.T) {
	g := rand.New(rand.NewSource(40))
	bases := append(edges(), nat.Nat{5}, nat.Nat{6}, nat.Nat{7}, nat.Nat{1000}, anyNat(g, 4), anyNat(g, 30))
	for _, a := range bases {
		for range 100 {
			m, n := g.Intn(1+g.Intn(600)), g.Intn(1+g.Intn(401))
			x, xe := nat.Power(a, m)
			y, ye := nat.Power(a, n)
			if xe != api.OK || ye != api.OK {
				continue
			}
			x, xe = nat.Mul(x, y)
			y, ye = nat.Power(a, m+n)
			same(t, x, xe, y, ye, a, nat.Nat{m}, nat.Nat{n})
		}
	}
}

func TestP3_4PowersOneByOne(t *testing.T) {
	for _, base := range []int{0, 1, 2, 3, 4, 10, 1000, 65535, 65536, 1 << 40} {
		a, _ := nat.Of(base)
		product, e := nat.Nat{1}, api.OK
		for n := range 1001 {
			x, xe := nat.Power(a, n)
			same(t, x, xe, product, e, a, nat.Nat{n})
			product, e = then(nat.Mul, a)(product, e)
		}
	}
	get := must(t)
	if s, _ := nat.Show(get(nat.Power(nat.Nat{1000}, 3))); s != "1000000000" {
		t.Error(s)
	}
}

func TestP3_4ShiftMultiplies(t *testing.T) {
	get := must(t)
	for n := range 2048 {
		power := get(nat.Shift(nat.Nat{1}, n))
		if n <= 1000 && !equal(power, get(nat.Power(nat.Nat{2}, n))) {
			t.Errorf("shifted by %d: %s", n, name(power))
		}
		for _, a := range []nat.Nat{nil, {3}, {65535}, {0, 1}, number(1000, -1), number(2048-n, -1), number(2047, 0), number(2048, -1)} {
			x, xe := nat.Shift(a, n)
			y, ye := nat.Mul(a, power)
			same(t, x, xe, y, ye, a, nat.Nat{n})
		}
	}
}

func TestP3_4BitsOfShifted(t *testing.T) {
	for _, a := range edges() {
		for n := range 2048 {
			shifted, e := nat.Shift(a, n)
			if e != api.OK {
				if nat.Bits(a)+n <= 2048 || len(a) == 0 {
					t.Fatalf("%s shifted by %d: %s", name(a), n, api.Name(e))
				}
				continue
			}
			want := nat.Bits(a) + n
			if len(a) == 0 {
				want = 0
			}
			if nat.Bits(shifted) != want {
				t.Fatalf("%s shifted by %d has %d bits, want %d", name(a), n, nat.Bits(shifted), want)
			}
		}
	}
}

// P3.5

// divides tells whether c divides a; 0 divides 0 alone.
func divides(c, a nat.Nat) bool {
	if len(c) == 0 {
		return len(a) == 0
	}
	_, r, e := nat.Divide(a, c)
	return e == api.OK && len(r) == 0
}

func checkDivisor(t *testing.T, a, b, common nat.Nat) {
	t.Helper()
	d, e := nat.Gcd(a, b)
	if e != api.OK || !divides(d, a) || !divides(d, b) || !divides(common, d) {
		t.Fatalf("Gcd(%s, %s) = %s, %s; %s", name(a), name(b), name(d), api.Name(e), name(common))
	}
	if len(d) == 0 {
		return
	}
	x, _, _ := nat.Divide(a, d)
	y, _, _ := nat.Divide(b, d)
	one, e := nat.Gcd(x, y)
	same(t, one, e, nat.Nat{1}, api.OK, a, b)
}

func TestP3_5Divisors(t *testing.T) {
	triples(50, func(a, b, c nat.Nat) {
		x, xe := nat.Mul(a, c)
		y, ye := nat.Mul(b, c)
		if xe == api.OK && ye == api.OK {
			checkDivisor(t, x, y, c)
		}
		checkDivisor(t, a, b, nat.Nat{1})
	})
}

func TestP3_5CommonDivisorsOfSmallNumbers(t *testing.T) {
	for m := range 80 {
		for n := range 80 {
			a, b := natOf(big.NewInt(int64(m))), natOf(big.NewInt(int64(n)))
			for c := 1; c < 80; c++ {
				if m%c == 0 && n%c == 0 {
					checkDivisor(t, a, b, nat.Nat{c})
				}
			}
		}
	}
}

// Neighbours in the sequence of Fibonacci need the most divisions.
func TestP3_5MostDivisions(t *testing.T) {
	get := must(t)
	a, b := nat.Nat{1}, nat.Nat{1}
	for {
		sum, e := nat.Add(a, b)
		if e != api.OK {
			break
		}
		a, b = b, sum
	}
	if d := get(nat.Gcd(a, b)); !equal(d, nat.Nat{1}) || nat.Bits(b) != 2048 {
		t.Errorf("%s, %d bits", name(d), nat.Bits(b))
	}
	checkDivisor(t, b, a, nat.Nat{1})
}

func TestP3_5DivisorsWithZero(t *testing.T) {
	for _, a := range edges() {
		x, xe := nat.Gcd(a, nil)
		same(t, x, xe, a, api.OK, a)
		x, xe = nat.Gcd(nil, a)
		same(t, x, xe, a, api.OK, a)
		x, xe = nat.Gcd(a, a)
		same(t, x, xe, a, api.OK, a)
		x, xe = nat.Gcd(a, nat.Nat{1})
		same(t, x, xe, nat.Nat{1}, api.OK, a)
	}
}

// P3.6

func TestP3_6TotalOrder(t *testing.T) {
	triples(60, func(a, b, c nat.Nat) {
		x, y, z := nat.Compare(a, b), nat.Compare(b, c), nat.Compare(a, c)
		if nat.Compare(a, a) != 0 || nat.Compare(b, a) != -x || (x == 0) != equal(a, b) || x < -1 || x > 1 {
			t.Fatalf("%s and %s: %d", name(a), name(b), x)
		}
		if x <= 0 && y <= 0 && (z > 0 || z == 0 && (x < 0 || y < 0)) {
			t.Fatalf("%s, %s, %s: %d, %d, but %d", name(a), name(b), name(c), x, y, z)
		}
	})
}

func TestP3_6OrderOfNeighbours(t *testing.T) {
	get := must(t)
	for _, a := range edges() {
		if next, e := nat.Add(a, nat.Nat{1}); e == api.OK && (nat.Compare(a, next) != -1 || nat.Compare(next, a) != 1 || !equal(get(nat.Sub(next, nat.Nat{1})), a)) {
			t.Errorf("%s is not less than %s", name(a), name(next))
		}
	}
	for i, c := range []struct{ less, greater nat.Nat }{{nil, nat.Nat{1}}, {nat.Nat{65535}, nat.Nat{0, 1}}, {nat.Nat{65535, 1}, nat.Nat{0, 2}}, {nat.Nat{9, 9, 1}, nat.Nat{0, 0, 2}}, {nat.Nat{1, 5, 7}, nat.Nat{2, 5, 7}}} {
		if nat.Compare(c.less, c.greater) != -1 || nat.Compare(c.greater, c.less) != 1 {
			t.Error(i)
		}
	}
}

func TestP3_6OrderIsKept(t *testing.T) {
	triples(61, func(a, b, c nat.Nat) {
		want := nat.Compare(a, b)
		x, xe := nat.Add(a, c)
		y, ye := nat.Add(b, c)
		if xe == api.OK && ye == api.OK && nat.Compare(x, y) != want {
			t.Fatalf("adding %s to %s and %s", name(c), name(a), name(b))
		}
		if len(c) == 0 {
			return
		}
		x, xe = nat.Mul(a, c)
		y, ye = nat.Mul(b, c)
		if xe == api.OK && ye == api.OK && nat.Compare(x, y) != want {
			t.Fatalf("multiplying %s and %s by %s", name(a), name(b), name(c))
		}
	})
}

// P3.7

func TestP3_7ParseReturnsWhatIsShown(t *testing.T) {
	g := rand.New(rand.NewSource(70))
	numbers := edges()
	for range 3000 {
		numbers = append(numbers, anyNat(g, 128))
	}
	for n := range 2048 {
		numbers = append(numbers, number(n, -1), number(n, 0))
	}
	for _, a := range numbers {
		s, e := nat.Show(a)
		if e != api.OK {
			t.Fatalf("Show(%s): %s", name(a), api.Name(e))
		}
		got, e := nat.Parse(s)
		same(t, got, e, a, api.OK, a)
	}
}

func TestP3_7NotationsOfInts(t *testing.T) {
	g := rand.New(rand.NewSource(71))
	for i := range 10000 {
		n := int(g.Uint64() >> 1 >> (i % 63))
		a, _ := nat.Of(n)
		if s, e := nat.Show(a); s != strconv.Itoa(n) || e != api.OK {
			t.Fatalf("%d is shown as %q", n, s)
		}
	}
}

// accepted fails if a string is accepted that is not the notation of the number.
func accepted(t *testing.T, s string) {
	t.Helper()
	a, e := nat.Parse(s)
	if e != api.OK {
		if len(a) != 0 || e != api.ErrSyntax && e != api.ErrLimit {
			t.Fatalf("Parse(%q) = %s, %s", s, name(a), api.Name(e))
		}
		return
	}
	if shown, e := nat.Show(a); shown != s || e != api.OK {
		t.Fatalf("%q is accepted, and shown as %q", s, shown)
	}
}

func TestP3_7WhatIsAcceptedIsANotation(t *testing.T) {
	const letters = "0123456789 +-.x_"
	for _, x := range letters {
		for _, y := range letters {
			for _, z := range letters {
				accepted(t, string(x))
				accepted(t, string([]rune{x, y}))
				accepted(t, string([]rune{x, y, z}))
			}
		}
	}
	g := rand.New(rand.NewSource(72))
	for range 2000 {
		b := make([]byte, g.Intn(700))
		few := g.Intn(2) * 6
		for i := range b {
			b[i] = letters[g.Intn(10+few)]
			if g.Intn(2) == 0 {
				b[i] = "0009"[g.Intn(4)]
			}
		}
		accepted(t, string(b))
	}
}
