package nat_test

import (
	"math/big"
	"math/rand"
	"slices"
	"strings"
	"testing"

	"bookplate/api"
	"bookplate/nat"
)

// P3.1: Valid, Of, Int, Compare and Bits

func TestP3_1Constants(t *testing.T) {
	if nat.Base != 65536 || nat.MaxLimbs != 128 || nat.MaxPower != 1000 || nat.MaxShift != 2047 {
		t.Error("a limit differs")
	}
}

func TestP3_1Valid(t *testing.T) {
	for _, a := range append(edges(), nat.Nat{}, manyDigits(127), manyDigits(128)) {
		if !nat.Valid(a) {
			t.Errorf("%s is not valid", name(a))
		}
	}
	for _, a := range invalid() {
		if nat.Valid(a) {
			t.Errorf("%s is valid", name(a))
		}
	}
}

func TestP3_1Of(t *testing.T) {
	for n, want := range map[int]nat.Nat{
		0: nil, 1: {1}, 65535: {65535}, 65536: {0, 1}, 65537: {1, 1}, 131071: {65535, 1}, 1<<32 - 1: {65535, 65535}, 1 << 32: {0, 0, 1},
		1<<48 + 7: {7, 0, 0, 1}, 1 << 62: {0, 0, 0, 16384}, 1<<62 + 1: {1, 0, 0, 16384}, greatest: {65535, 65535, 65535, 32767},
	} {
		got, e := nat.Of(n)
		check(t, got, e, want, api.OK, "Of", n)
	}
	for _, n := range []int{-1, -2, -65536, -1 << 32, least + 1, least} {
		got, e := nat.Of(n)
		check(t, got, e, nil, api.ErrRange, "Of", n)
	}
}

func TestP3_1OfAnyInt(t *testing.T) {
	g := rand.New(rand.NewSource(1))
	for i := range 10000 {
		n := int(g.Uint64() >> 1 >> (i % 63))
		got, e := nat.Of(n)
		check(t, got, e, natOf(big.NewInt(int64(n))), api.OK, "Of", n)
		back, e := nat.Int(got)
		if n > 1<<62 && (back != 0 || e != api.ErrRange) || n <= 1<<62 && (back != n || e != api.OK) {
			t.Fatalf("Int(Of(%d)) = %d, %s", n, back, api.Name(e))
		}
	}
}

func TestP3_1Int(t *testing.T) {
	for _, a := range edges() {
		want, wantE := 0, api.ErrRange
		if n := bigOf(a); n.Cmp(powerOfTwo(62)) <= 0 {
			want, wantE = int(n.Int64()), api.OK
		}
		if n, e := nat.Int(a); n != want || e != wantE {
			t.Errorf("Int(%s) = %d, %s, want %d, %s", name(a), n, api.Name(e), want, api.Name(wantE))
		}
	}
	for _, a := range []nat.Nat{{1, 0, 0, 16384}, {0, 0, 0, 16385}, {0, 0, 0, 65535}, {65535, 65535, 65535, 65535}, {0, 0, 0, 0, 1}, {5, 0, 0, 0, 1}, manyDigits(128)} {
		if n, e := nat.Int(a); n != 0 || e != api.ErrRange {
			t.Errorf("Int(%s) = %d, %s", name(a), n, api.Name(e))
		}
	}
	for _, a := range invalid() {
		if n, e := nat.Int(a); n != 0 || e != api.ErrArg {
			t.Errorf("Int(%s) = %d, %s", name(a), n, api.Name(e))
		}
	}
}

func TestP3_1Compare(t *testing.T) {
	compare := func(a, b nat.Nat) {
		if c, want := nat.Compare(a, b), bigOf(a).Cmp(bigOf(b)); c != want {
			t.Fatalf("Compare(%s, %s) = %d, want %d", name(a), name(b), c, want)
		}
	}
	for _, a := range edges() {
		for _, b := range edges() {
			compare(a, b)
		}
	}
	g := rand.New(rand.NewSource(2))
	for range 10000 {
		compare(anyPair(g, 128))
	}
	for _, a := range invalid() {
		for _, b := range []nat.Nat{nil, {1}, {65535}, number(2048, -1), a, {0}} {
			if nat.Compare(a, b) != 0 || nat.Compare(b, a) != 0 {
				t.Errorf("%s is compared with %s", name(a), name(b))
			}
		}
	}
}

func TestP3_1Bits(t *testing.T) {
	for _, c := range []struct {
		a    nat.Nat
		want int
	}{{nil, 0}, {nat.Nat{}, 0}, {nat.Nat{1}, 1}, {nat.Nat{2}, 2}, {nat.Nat{3}, 2}, {nat.Nat{65535}, 16}, {nat.Nat{0, 1}, 17}, {number(2048, -1), 2048}} {
		if n := nat.Bits(c.a); n != c.want {
			t.Errorf("Bits(%s) = %d, want %d", name(c.a), n, c.want)
		}
	}
	for n := range 2048 {
		for _, d := range []int{-1, 0} {
			if a := number(n, d); nat.Bits(a) != n+1+d {
				t.Errorf("Bits of 2^%d + %d is %d", n, d, nat.Bits(a))
			}
		}
	}
	for _, a := range invalid() {
		if n := nat.Bits(a); n != 0 {
			t.Errorf("Bits(%s) = %d", name(a), n)
		}
	}
}

// P3.1: functions of two numbers

type binary struct {
	name     string
	function func(a, b nat.Nat) (nat.Nat, api.Errno)
	model    func(a, b *big.Int) (nat.Nat, api.Errno)
}

func binaries() []binary {
	return []binary{{"Add", nat.Add, modelAdd}, {"Sub", nat.Sub, modelSub}, {"Mul", nat.Mul, modelMul}, {"Gcd", nat.Gcd, modelGcd}}
}

// checkPair compares all functions of two numbers with the model.
func checkPair(t *testing.T, a, b nat.Nat) {
	t.Helper()
	x, y := bigOf(a), bigOf(b)
	for _, f := range binaries() {
		got, e := f.function(a, b)
		want, wantE := f.model(x, y)
		check(t, got, e, want, wantE, f.name, a, b)
	}
	q, r, e := nat.Divide(a, b)
	if len(b) == 0 {
		check(t, q, e, nil, api.ErrArg, "the quotient of ", a, b)
		check(t, r, e, nil, api.ErrArg, "the remainder of ", a, b)
		return
	}
	quotient, remainder := new(big.Int).QuoRem(x, y, new(big.Int))
	check(t, q, e, natOf(quotient), api.OK, "the quotient of ", a, b)
	check(t, r, e, natOf(remainder), api.OK, "the remainder of ", a, b)
}

func TestP3_1PairsOfEdges(t *testing.T) {
	for _, a := range edges() {
		for _, b := range edges() {
			checkPair(t, a, b)
		}
	}
}

func TestP3_1AnyPairs(t *testing.T) {
	g := rand.New(rand.NewSource(3))
	for i := range 6000 {
		a, b := anyPair(g, []int{3, 8, 70, 128}[i%4])
		checkPair(t, a, b)
	}
}

func TestP3_1SmallPairs(t *testing.T) {
	for m := range 50 {
		for n := range 50 {
			checkPair(t, natOf(big.NewInt(int64(m))), natOf(big.NewInt(int64(n))))
		}
	}
}

// Numbers slightly less than a multiple of the divisor are those whose quotients look greater than they are by their first digits.
func TestP3_1DivideBesideMultiples(t *testing.T) {
	g := rand.New(rand.NewSource(4))
	for range 2500 {
		a, b := anyOfLength(g, 1+g.Intn(64)), anyOfLength(g, 1+g.Intn(64))
		multiple := new(big.Int).Mul(bigOf(a), bigOf(b))
		for _, d := range []int64{-2, -1, 0, 1} {
			if n := new(big.Int).Add(multiple, big.NewInt(d)); n.Sign() >= 0 {
				checkPair(t, natOf(n), b)
			}
		}
	}
}

// Every digit of the quotient may be one of the greatest, and the remainder the greatest one.
func TestP3_1DivideByFewLeadingBits(t *testing.T) {
	for _, first := range []int{1, 2, 32767, 32768, 65535} {
		for size := 1; size <= 8; size++ {
			for _, rest := range []int{0, 1, 65535} {
				b := make(nat.Nat, size)
				for i := range b {
					b[i] = rest
				}
				b[size-1] = first
				for _, a := range []nat.Nat{number(2048, -1), number(2047, 0), number(1000, -1), number(16*size+16, -1), number(16*size, -1)} {
					checkPair(t, a, b)
				}
				limit := new(big.Int).Lsh(bigOf(b), 16*5)
				checkPair(t, natOf(limit.Sub(limit, big.NewInt(1))), b)
			}
		}
	}
}

func TestP3_1Limits(t *testing.T) {
	most, half := number(2048, -1), number(1024, 0)
	for _, c := range []struct {
		f    string
		a, b nat.Nat
		want nat.Nat
		e    api.Errno
	}{
		{"Add", most, nil, most, api.OK}, {"Add", nil, most, most, api.OK}, {"Add", most, nat.Nat{1}, nil, api.ErrLimit}, {"Add", nat.Nat{1}, most, nil, api.ErrLimit},
		{"Add", number(2048, -2), nat.Nat{1}, most, api.OK}, {"Add", number(2047, 0), number(2047, -1), most, api.OK}, {"Add", number(2047, 0), number(2047, 0), nil, api.ErrLimit},
		{"Add", most, most, nil, api.ErrLimit}, {"Sub", most, most, nil, api.OK}, {"Sub", nil, nat.Nat{1}, nil, api.ErrRange}, {"Sub", number(2048, -2), most, nil, api.ErrRange},
		{"Sub", nat.Nat{0, 1}, nat.Nat{1}, nat.Nat{65535}, api.OK}, {"Sub", number(2047, 0), nat.Nat{1}, number(2047, -1), api.OK}, {"Sub", nil, nil, nil, api.OK},
		{"Mul", half, half, nil, api.ErrLimit}, {"Mul", half, number(1024, -1), natOf(new(big.Int).Sub(powerOfTwo(2048), powerOfTwo(1024))), api.OK}, {"Mul", half, number(1023, 0), number(2047, 0), api.OK},
		{"Mul", most, nat.Nat{1}, most, api.OK}, {"Mul", nat.Nat{1}, most, most, api.OK}, {"Mul", most, nat.Nat{2}, nil, api.ErrLimit}, {"Mul", nat.Nat{2}, most, nil, api.ErrLimit},
		{"Mul", most, nil, nil, api.OK}, {"Mul", nil, most, nil, api.OK}, {"Mul", nil, nil, nil, api.OK}, {"Mul", most, most, nil, api.ErrLimit}, {"Mul", number(1024, -1), number(1024, 1), most, api.OK},
		{"Gcd", nil, nil, nil, api.OK}, {"Gcd", most, nil, most, api.OK}, {"Gcd", nil, most, most, api.OK}, {"Gcd", most, most, most, api.OK}, {"Gcd", nat.Nat{12}, nat.Nat{18}, nat.Nat{6}, api.OK},
	} {
		for _, f := range binaries() {
			if f.name == c.f {
				got, e := f.function(c.a, c.b)
				check(t, got, e, c.want, c.e, f.name, c.a, c.b)
			}
		}
	}
}

func TestP3_1DivideExamples(t *testing.T) {
	most := number(2048, -1)
	for _, c := range []struct{ a, b, q, r nat.Nat }{
		{nat.Nat{34464, 1}, nat.Nat{7}, nat.Nat{14285}, nat.Nat{5}}, {nil, nat.Nat{7}, nil, nil}, {nat.Nat{6}, nat.Nat{7}, nil, nat.Nat{6}}, {nat.Nat{7}, nat.Nat{7}, nat.Nat{1}, nil},
		{most, nat.Nat{1}, most, nil}, {most, most, nat.Nat{1}, nil}, {number(2048, -2), most, nil, number(2048, -2)}, {most, nat.Nat{0, 1}, number(2032, -1), nat.Nat{65535}},
		{nat.Nat{0, 1}, most, nil, nat.Nat{0, 1}}, {most, number(2047, 0), nat.Nat{1}, number(2047, -1)},
	} {
		q, r, e := nat.Divide(c.a, c.b)
		check(t, q, e, c.q, api.OK, "the quotient of ", c.a, c.b)
		check(t, r, e, c.r, api.OK, "the remainder of ", c.a, c.b)
	}
}

func TestP3_1InvalidPairs(t *testing.T) {
	reject := func(a, b nat.Nat) {
		for _, f := range binaries() {
			got, e := f.function(a, b)
			check(t, got, e, nil, api.ErrArg, f.name, a, b)
		}
		if q, r, e := nat.Divide(a, b); len(q) != 0 || len(r) != 0 || e != api.ErrArg {
			t.Errorf("Divide(%s, %s) = %s, %s, %s", name(a), name(b), name(q), name(r), api.Name(e))
		}
	}
	for _, a := range invalid() {
		for _, b := range []nat.Nat{nil, {1}, {65535}, number(1024, 0), number(2048, -1), {0}, {-1}, a} {
			reject(a, b)
			reject(b, a)
		}
	}
}

// P3.1: Power and Shift

func checkPower(t *testing.T, a nat.Nat, n int) {
	t.Helper()
	got, e := nat.Power(a, n)
	want, wantE := modelPower(bigOf(a), n)
	check(t, got, e, want, wantE, "Power", a, n)
}

func TestP3_1Power(t *testing.T) {
	for base := range 20 {
		for n := range 1001 {
			checkPower(t, natOf(big.NewInt(int64(base))), n)
		}
	}
	for _, a := range edges() {
		for n := -2; n < 140; n++ {
			checkPower(t, a, n)
		}
		for _, n := range []int{999, 1000, 1001, 1 << 16, 1 << 32, 1<<32 + 1, greatest, -1000, -1 << 32, least, least + 1} {
			checkPower(t, a, n)
		}
	}
	g := rand.New(rand.NewSource(5))
	for range 2000 {
		checkPower(t, anyNat(g, 9), g.Intn(20))
	}
}

func TestP3_1PowerLimits(t *testing.T) {
	most := number(2048, -1)
	for _, c := range []struct {
		a, want nat.Nat
		n       int
		e       api.Errno
	}{
		{nil, nat.Nat{1}, 0, api.OK}, {nil, nil, 1, api.OK}, {nil, nil, 1000, api.OK}, {nil, nil, 1001, api.ErrRange}, {nat.Nat{1}, nat.Nat{1}, 1000, api.OK},
		{most, nat.Nat{1}, 0, api.OK}, {most, most, 1, api.OK}, {most, nil, 2, api.ErrLimit}, {most, nil, -1, api.ErrRange}, {most, nil, 1001, api.ErrRange}, {most, nil, 1000, api.ErrLimit},
		{nat.Nat{2}, number(1000, 0), 1000, api.OK}, {nat.Nat{4}, number(2000, 0), 1000, api.OK}, {nat.Nat{8}, number(2046, 0), 682, api.OK}, {nat.Nat{8}, nil, 683, api.ErrLimit},
		{nat.Nat{0, 1}, number(2032, 0), 127, api.OK}, {nat.Nat{0, 1}, nil, 128, api.ErrLimit}, {number(1024, 0), nil, 2, api.ErrLimit}, {number(1023, 0), number(2046, 0), 2, api.OK},
		{number(23, 0), number(2047, 0), 89, api.OK}, {number(89, 0), number(2047, 0), 23, api.OK},
	} {
		got, e := nat.Power(c.a, c.n)
		check(t, got, e, c.want, c.e, "Power", c.a, c.n)
	}
}

func checkShift(t *testing.T, a nat.Nat, n int) {
	t.Helper()
	got, e := nat.Shift(a, n)
	want, wantE := modelShift(bigOf(a), n)
	check(t, got, e, want, wantE, "Shift", a, n)
}

func TestP3_1Shift(t *testing.T) {
	for _, a := range edges() {
		for n := -1; n < 2049; n += 1 + n/100 {
			checkShift(t, a, n)
		}
		for _, n := range []int{2047, 2048, 1 << 32, greatest, -2, -16, -1 << 32, least} {
			checkShift(t, a, n)
		}
		most := 2048 - bigOf(a).BitLen()
		checkShift(t, a, most)
		checkShift(t, a, most+1)
	}
	g := rand.New(rand.NewSource(6))
	for range 4000 {
		checkShift(t, anyNat(g, 100), g.Intn(600))
	}
}

func TestP3_1ShiftLimits(t *testing.T) {
	for _, c := range []struct {
		a, want nat.Nat
		n       int
		e       api.Errno
	}{
		{nil, nil, 0, api.OK}, {nil, nil, 2047, api.OK}, {nil, nil, 2048, api.ErrRange}, {nil, nil, -1, api.ErrRange}, {nat.Nat{1}, number(2047, 0), 2047, api.OK}, {nat.Nat{2}, nil, 2047, api.ErrLimit},
		{nat.Nat{1}, nat.Nat{0, 1}, 16, api.OK}, {nat.Nat{1}, nat.Nat{32768}, 15, api.OK}, {nat.Nat{65535}, nat.Nat{65534, 1}, 1, api.OK}, {number(2048, -1), nil, 1, api.ErrLimit},
		{number(2048, -1), number(2048, -1), 0, api.OK}, {number(2048, -1), nil, 2047, api.ErrLimit}, {number(2048, -1), nil, 2048, api.ErrRange}, {nat.Nat{3}, nil, 2047, api.ErrLimit},
	} {
		got, e := nat.Shift(c.a, c.n)
		check(t, got, e, c.want, c.e, "Shift", c.a, c.n)
	}
}

func TestP3_1InvalidPowersAndShifts(t *testing.T) {
	for _, a := range invalid() {
		for _, n := range []int{0, 1, 2, 1000, 1001, 2047, 2048, -1, least, greatest} {
			got, e := nat.Power(a, n)
			check(t, got, e, nil, api.ErrArg, "Power", a, n)
			got, e = nat.Shift(a, n)
			check(t, got, e, nil, api.ErrArg, "Shift", a, n)
		}
	}
}

// P3.1: Show and Parse

func TestP3_1Show(t *testing.T) {
	show := func(a nat.Nat) {
		want := bigOf(a).String()
		if s, e := nat.Show(a); s != want || e != api.OK {
			t.Fatalf("Show(%s) = %q, %s, want %q", name(a), s, api.Name(e), want)
		}
	}
	for _, a := range edges() {
		show(a)
	}
	for n := range 70000 {
		show(natOf(big.NewInt(int64(n))))
	}
	for n := range 617 { // 10^n, and its neighbours, have zeros and nines in all groups of digits
		power := new(big.Int).Exp(big.NewInt(10), big.NewInt(int64(n)), nil)
		for _, d := range []int64{-1, 0, 1, 10} {
			show(natOf(new(big.Int).Add(power, big.NewInt(d))))
		}
	}
	g := rand.New(rand.NewSource(7))
	for range 3000 {
		show(anyNat(g, 128))
	}
	for _, a := range invalid() {
		if s, e := nat.Show(a); s != "" || e != api.ErrArg {
			t.Errorf("Show(%s) = %q, %s", name(a), s, api.Name(e))
		}
	}
}

func TestP3_1Parse(t *testing.T) {
	zeros := strings.Repeat("0", 2000)
	limit := powerOfTwo(2048)
	most := new(big.Int).Sub(limit, big.NewInt(1))
	for _, c := range []struct {
		s    string
		want nat.Nat
		e    api.Errno
	}{
		{"0", nil, api.OK}, {"1", nat.Nat{1}, api.OK}, {"10", nat.Nat{10}, api.OK}, {"65535", nat.Nat{65535}, api.OK}, {"65536", nat.Nat{0, 1}, api.OK}, {"1000000000", nat.Nat{51712, 15258}, api.OK},
		{most.String(), number(2048, -1), api.OK}, {limit.String(), nil, api.ErrLimit}, {"1" + zeros[:616], natOf(new(big.Int).Exp(big.NewInt(10), big.NewInt(616), nil)), api.OK},
		{"1" + zeros[:617], nil, api.ErrLimit}, {"9" + zeros[:699], nil, api.ErrLimit}, {strings.Repeat("9", 700), nil, api.ErrLimit}, {strings.Repeat("9", 701), nil, api.ErrSyntax},
		{"1" + zeros[:700], nil, api.ErrSyntax}, {"1" + zeros, nil, api.ErrSyntax}, {strings.Repeat("1", 1<<20), nil, api.ErrSyntax}, {zeros[:700], nil, api.ErrSyntax}, {"0" + most.String(), nil, api.ErrSyntax},
		{"1" + zeros[:698] + "x", nil, api.ErrSyntax}, {"x" + zeros[:699], nil, api.ErrSyntax}, {limit.String() + " ", nil, api.ErrSyntax},
	} {
		got, e := nat.Parse(c.s)
		check(t, got, e, c.want, c.e, "Parse", c.s)
	}
	for n := 600; n <= 705; n++ {
		s := strings.Repeat("7", n)
		got, e := nat.Parse(s)
		parsed, _ := new(big.Int).SetString(s, 10)
		want, wantE := modelLimited(parsed)
		if n > 700 {
			wantE = api.ErrSyntax
		}
		check(t, got, e, want, wantE, "Parse", s)
	}
}

func TestP3_1ParseOfNoNotations(t *testing.T) {
	for _, s := range []string{
		"", "00", "01", "007", "-1", "-0", "+1", "+0", "-", "+", " ", " 1", "1 ", "1 2", "1\n", "\t1", "1.", "1.0", ".1", "1e3", "1_000", "1,000", "0x1", "x", "a", "1a", "a1", "1a1", "A", "0b1", "0o7",
		"1\x00", "\x00", "\xff", "1\xff1", "\uff11", "1\uff12", "\u0661", "1\u0663", "\u00b2", "1/", "1:", "/", ":", "12/34", "12:34", "'1'", "1'000", "१२",
	} {
		got, e := nat.Parse(s)
		check(t, got, e, nil, api.ErrSyntax, "Parse", s)
	}
	for place := range 4 {
		for c := range 256 {
			b := []byte("1234")
			b[place] = byte(c)
			digit := '0' <= c && c <= '9' && (place > 0 || c != '0')
			if got, e := nat.Parse(string(b)); (e == api.OK) != digit || !digit && (len(got) != 0 || e != api.ErrSyntax) {
				t.Errorf("Parse(%q) = %s, %s", b, name(got), api.Name(e))
			}
		}
	}
}

// P3.1: arguments and results

// results returns the results of all functions of two numbers.
func results(a, b nat.Nat) []nat.Nat {
	var l []nat.Nat
	keep := func(r nat.Nat, _ api.Errno) { l = append(l, r) }
	for _, f := range binaries() {
		keep(f.function(a, b))
		keep(f.function(b, a))
	}
	for _, x := range [][2]nat.Nat{{a, b}, {b, a}} {
		q, r, _ := nat.Divide(x[0], x[1])
		l = append(l, q, r)
		for n := range 4 {
			keep(nat.Power(x[0], n))
			keep(nat.Shift(x[0], n*8))
		}
	}
	return l
}

// roomy returns a copy with room behind it.
func roomy(a nat.Nat) nat.Nat {
	return append(make(nat.Nat, 0, 300), a...)
}

func TestP3_1ResultsAreValid(t *testing.T) {
	g := rand.New(rand.NewSource(8))
	for range 1500 {
		for i, a := range results(anyPair(g, 128)) {
			if !nat.Valid(a) {
				t.Fatalf("result %d: %s", i, name(a))
			}
		}
	}
}

func TestP3_1ArgumentsStay(t *testing.T) {
	g := rand.New(rand.NewSource(9))
	pairs := [][2]nat.Nat{{{5}, nil}, {{5}, {1}}, {{5}, {5}}, {{7, 0, 1}, {9, 1}}, {{65535}, {65535}}, {{-1, 0}, {3}}}
	for range 500 {
		a, b := anyPair(g, 60)
		pairs = append(pairs, [2]nat.Nat{a, b})
	}
	for _, p := range pairs {
		a, b := roomy(p[0]), roomy(p[1])
		results(a, b)
		for _, x := range []nat.Nat{a, b} {
			nat.Valid(x)
			nat.Int(x)
			nat.Bits(x)
			nat.Show(x)
			nat.Compare(x, a)
		}
		if !equal(a, p[0]) || !equal(b, p[1]) {
			t.Fatalf("%s and %s were changed to %s and %s", name(p[0]), name(p[1]), name(a), name(b))
		}
		for _, x := range []nat.Nat{a, b} {
			if behind := x[len(x):cap(x)]; !equal(behind, make(nat.Nat, len(behind))) {
				t.Fatalf("the memory behind %s was changed", name(x))
			}
		}
	}
}

// Each result is overwritten, also behind its end; no argument and no other result may change by this.
func TestP3_1ResultsAreApart(t *testing.T) {
	g := rand.New(rand.NewSource(10))
	pairs := [][2]nat.Nat{{{5}, nil}, {{5}, {1}}, {{5}, {5}}, {{1}, {65535, 65535}}, {{7, 0, 1}, {9, 1}}}
	for range 100 {
		a, b := anyPair(g, 30)
		pairs = append(pairs, [2]nat.Nat{a, b})
	}
	for _, p := range pairs {
		a, b := roomy(p[0]), roomy(p[1])
		l := results(a, b)
		want := results(p[0], p[1])
		for i, r := range l {
			whole := r[:cap(r)]
			for j := range whole {
				whole[j] = -7
			}
			for j := i + 1; j < len(l); j++ {
				if !equal(l[j], want[j]) {
					t.Fatalf("for %s and %s, a change of result %d changed result %d", name(p[0]), name(p[1]), i, j)
				}
			}
		}
		if !equal(a, p[0]) || !equal(b, p[1]) {
			t.Fatalf("a change of a result changed %s or %s", name(p[0]), name(p[1]))
		}
		for i, r := range results(p[0], p[1]) {
			if !equal(r, want[i]) {
				t.Fatalf("a change of a result changed a later call for %s and %s", name(p[0]), name(p[1]))
			}
		}
	}
}

func TestP3_1ResultsOfOneNumberAreApart(t *testing.T) {
	for range 2 {
		a, _ := nat.Of(1 << 40)
		b, _ := nat.Parse("1099511627776")
		if !slices.Equal(a, nat.Nat{0, 0, 256}) || !slices.Equal(b, a) {
			t.Fatal("a change of a result changed a later call")
		}
		clear(a[:cap(a)])
		if !slices.Equal(b, nat.Nat{0, 0, 256}) {
			t.Fatal("a change of a result changed another one")
		}
		clear(b[:cap(b)])
	}
}

func TestP3_1EmptyIsNil(t *testing.T) {
	for _, b := range edges() {
		for _, pair := range [][2][]nat.Nat{{results(nil, b), results(nat.Nat{}, b)}, {results(b, nil), results(b, nat.Nat{})}} {
			for i, r := range pair[0] {
				if !equal(r, pair[1][i]) {
					t.Errorf("result %d of an empty list and %s: %s", i, name(b), name(pair[1][i]))
				}
			}
		}
	}
	s, e := nat.Show(nat.Nat{})
	n, e2 := nat.Int(nat.Nat{})
	if s != "0" || n != 0 || e != api.OK || e2 != api.OK || nat.Compare(nat.Nat{}, nil) != 0 {
		t.Error(s, n, e, e2)
	}
}
