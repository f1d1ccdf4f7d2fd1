package digest_test

import (
	"bytes"
	"hash/crc32"
	"math/rand"
	"strings"
	"testing"
	"time"

	"bookplate/api"
	"bookplate/digest"
)

// P2.1: Of and More

func run(from, step int) []byte {
	b := make([]byte, 32)
	for i := range b {
		b[i] = byte(from + i*step)
	}
	return b
}

func TestP2_1KnownChecksums(t *testing.T) {
	for _, c := range []struct {
		b    []byte
		want uint32
	}{
		{nil, 0}, {[]byte{}, 0}, {[]byte("123456789"), 0xE3069283}, {[]byte("a"), 0xC1D04330},
		{run(0, 0), 0x8A9136AA}, {run(255, 0), 0x62A8AB43}, {run(0, 1), 0x46DD794E}, {run(31, -1), 0x113FDB5C},
	} {
		if h := digest.Of(c.b); h != c.want {
			t.Errorf("Of(%x) = %08x, want %08x", c.b, h, c.want)
		}
		if h := digest.More(0, c.b); h != c.want {
			t.Errorf("More(0, %x) = %08x, want %08x", c.b, h, c.want)
		}
	}
}

func TestP2_1OfEachByte(t *testing.T) {
	for c := range 256 {
		for d := range 256 {
			b := []byte{byte(c), byte(d)}
			if digest.Of(b[:1]) != modelOf(b[:1]) || digest.Of(b) != modelOf(b) {
				t.Fatalf("Of(%x) = %08x, want %08x", b, digest.Of(b), modelOf(b))
			}
		}
	}
}

func TestP2_1OfAnyBytes(t *testing.T) {
	g := rand.New(rand.NewSource(1))
	for range 5000 {
		b := anyBytes(g, 300)
		if h := digest.Of(b); h != modelOf(b) {
			t.Fatalf("Of(%x) = %08x, want %08x", b, h, modelOf(b))
		}
	}
	long := bytesOf(g, 1<<20)
	if h, want := digest.Of(long), crc32.Checksum(long, crc32.MakeTable(crc32.Castagnoli)); h != want {
		t.Errorf("a long byte string: %08x, want %08x", h, want)
	}
}

func TestP2_1More(t *testing.T) {
	g := rand.New(rand.NewSource(2))
	table := crc32.MakeTable(crc32.Castagnoli)
	for _, h := range sums(g) {
		if digest.More(h, nil) != h || digest.More(h, []byte{}) != h {
			t.Errorf("%08x changes with nothing behind it", h)
		}
		for range 20 {
			b := anyBytes(g, 40)
			if got := digest.More(h, b); got != modelMore(h, b) || got != crc32.Update(h, table, b) {
				t.Errorf("More(%08x, %x) = %08x, want %08x", h, b, got, modelMore(h, b))
			}
		}
	}
}

// P2.1: Join

func TestP2_1JoinOfFewBytes(t *testing.T) {
	g := rand.New(rand.NewSource(3))
	for _, x := range sums(g) {
		y := g.Uint32()
		if digest.Join(x, y, 0) != x^y || digest.Join(x, 0, 0) != x {
			t.Errorf("Join(%08x, %08x, 0) = %08x", x, y, digest.Join(x, y, 0))
		}
		for n := range 70 {
			if h := digest.Join(x, y, n); h != modelJoin(x, y, n) || h != modelFarJoin(x, y, n) {
				t.Fatalf("Join(%08x, %08x, %d) = %08x, want %08x", x, y, n, h, modelJoin(x, y, n))
			}
		}
	}
}

func TestP2_1JoinOfLessThanNoBytes(t *testing.T) {
	for _, n := range []int{-1, -2, -8, -1 << 31, -1000000000000000000, least + 1, least} {
		if h := digest.Join(0xE3069283, 0x82F63B78, n); h != 0 {
			t.Errorf("Join of %d bytes: %08x", n, h)
		}
	}
}

// within fails if f, which may go through n bytes one by one by mistake, does not come to its end.
func within(t *testing.T, f func()) {
	t.Helper()
	end := make(chan bool)
	go func() {
		defer close(end)
		f()
	}()
	select {
	case <-end:
	case <-time.After(time.Minute):
		t.Fatal("it takes too long")
	}
}

func TestP2_1JoinOfManyBytes(t *testing.T) {
	g := rand.New(rand.NewSource(4))
	l := []int{1000000000000000000, 999999999999999999, greatest, greatest - 1, 1<<31 - 1, 1 << 31}
	for bit := range 63 {
		l = append(l, 1<<bit-1, 1<<bit, 1<<bit+1, int(g.Uint64()>>1)>>bit)
	}
	within(t, func() {
		for _, x := range sums(g) {
			for _, n := range l {
				y := g.Uint32()
				if h := digest.Join(x, y, n); h != modelFarJoin(x, y, n) {
					t.Errorf("Join(%08x, %08x, %d) = %08x, want %08x", x, y, n, h, modelFarJoin(x, y, n))
				}
			}
		}
	})
}

// Shifting 2^31 - 1 times changes no register, as the polynomial is X + 1 times a primitive one of degree 31.
func TestP2_1JoinBehindAPeriod(t *testing.T) {
	g := rand.New(rand.NewSource(5))
	within(t, func() {
		for _, x := range sums(g) {
			if h := digest.Join(x, 0, 1<<31-1); h != x {
				t.Errorf("%08x has become %08x", x, h)
			}
			if h := digest.Join(x, 0, 3<<31); h != digest.Join(x, 0, 3) {
				t.Errorf("%08x has become %08x", x, h)
			}
		}
	})
}

// P2.1: Seal and Open

func TestP2_1Seal(t *testing.T) {
	for payload, want := range map[string]string{
		"": "\x00\x00\x00\x00", "123456789": "123456789\x83\x92\x06\xe3", "a": "a\x30\x43\xd0\xc1", "\x00\x00\x00\x00": "\x00\x00\x00\x00\xc7\x4b\x67\x48",
	} {
		if b := digest.Seal([]byte(payload)); string(b) != want {
			t.Errorf("Seal(%q) = %x, want %x", payload, b, want)
		}
	}
	if b := digest.Seal(nil); string(b) != "\x00\x00\x00\x00" {
		t.Errorf("Seal(nil) = %x", b)
	}
	g := rand.New(rand.NewSource(6))
	for range 1000 {
		b := anyBytes(g, 50)
		if got := digest.Seal(b); !bytes.Equal(got, modelSeal(b)) {
			t.Fatalf("Seal(%x) = %x, want %x", b, got, modelSeal(b))
		}
	}
}

func TestP2_1Open(t *testing.T) {
	for _, c := range []struct {
		sealed, want string
		e            api.Errno
	}{
		{"", "", api.ErrForm}, {"\x00", "", api.ErrForm}, {"a", "", api.ErrForm}, {"\x00\x00", "", api.ErrForm}, {"\x00\x00\x00", "", api.ErrForm},
		{"\x00\x00\x00\x00", "", api.OK}, {"\x01\x00\x00\x00", "", api.ErrSum}, {"\x00\x00\x00\x80", "", api.ErrSum}, {"\x00\x00\x00\x00\x00", "", api.ErrSum},
		{"\xff\xff\xff\xff", "", api.ErrSum}, {"123456789\x83\x92\x06\xe3", "123456789", api.OK},
		{"123456789\xe3\x06\x92\x83", "", api.ErrSum}, {"\x83\x92\x06\xe3123456789", "", api.ErrSum}, {"123456789", "", api.ErrSum},
		{"123456789\x83\x92\x06", "", api.ErrSum}, {"123456789\x83\x92\x06\xe3\x00", "", api.ErrSum}, {"123456788\x83\x92\x06\xe3", "", api.ErrSum},
		{"123456789\x7c\x6d\xf9\x1c", "", api.ErrSum}, {"a\x30\x43\xd0\xc1", "a", api.OK},
	} {
		if b, e := digest.Open([]byte(c.sealed)); string(b) != c.want || e != c.e {
			t.Errorf("Open(%x) = %x, %s, want %x, %s", c.sealed, b, api.Name(e), c.want, api.Name(c.e))
		}
	}
	if b, e := digest.Open(nil); len(b) != 0 || e != api.ErrForm {
		t.Errorf("Open(nil) = %x, %s", b, api.Name(e))
	}
}

// P2.1: Print and Parse

func TestP2_1Print(t *testing.T) {
	for h, want := range map[uint32]string{
		0: "00000000", 1: "00000001", 0xE3069283: "e3069283", 0x0A: "0000000a", 0x80000000: "80000000", 0xFFFFFFFF: "ffffffff",
		0x01234567: "01234567", 0x89ABCDEF: "89abcdef", 0xFEDCBA98: "fedcba98", 0x00F00000: "00f00000",
	} {
		if s := digest.Print(h); s != want {
			t.Errorf("Print(%d) = %q, want %q", h, s, want)
		}
		if got, e := digest.Parse(want); got != h || e != api.OK {
			t.Errorf("Parse(%q) = %d, %s, want %d", want, got, api.Name(e), h)
		}
	}
}

func TestP2_1ParseOfOtherStrings(t *testing.T) {
	for _, s := range []string{
		"", "0", "e306928", "e30692833", "0e3069283", "e3069283 ", " e3069283", " 3069283", "e306928 ", "E3069283", "e306928A", "FFFFFFFF",
		"g3069283", "e306928g", "+3069283", "-3069283", "0x069283", "e306_283", "e3.69283", "e3069283\n", "e306928\n", "\x00\x00\x00\x00\x00\x00\x00\x00",
		"\uff10\uff11\uff12\uff13\uff14\uff15\uff16\uff17", "\uff10\uff1100", "\u0660\u0661\u0662\u0663", "e30692\u00e9", "e306928\xff", "0000000000000000", strings.Repeat("0", 1000),
	} {
		if h, e := digest.Parse(s); h != 0 || e != api.ErrSyntax {
			t.Errorf("Parse(%q) = %d, %s", s, h, api.Name(e))
		}
	}
}

func TestP2_1ParseOfEachByte(t *testing.T) {
	for place := range 8 {
		for c := range 256 {
			b := []byte("90af1be7")
			b[place] = byte(c)
			digit := '0' <= c && c <= '9' || 'a' <= c && c <= 'f'
			if h, e := digest.Parse(string(b)); (e == api.OK) != digit || !digit && (h != 0 || e != api.ErrSyntax) {
				t.Errorf("Parse(%q) = %d, %s", b, h, api.Name(e))
			}
		}
	}
}

// P2.1: arguments and results

func TestP2_1ArgumentsStay(t *testing.T) {
	roomy := append(make([]byte, 0, 100), "123456789"...)
	behind := roomy[len(roomy):cap(roomy)]
	digest.Of(roomy)
	digest.More(7, roomy)
	sealed := digest.Seal(roomy)
	if string(roomy) != "123456789" || !bytes.Equal(behind, make([]byte, len(behind))) {
		t.Error("the payload, or the memory behind it, was changed")
	}
	before := string(sealed)
	if _, e := digest.Open(sealed); e != api.OK || string(sealed) != before {
		t.Error("the sealed byte string was changed")
	}
}

func TestP2_1ResultsAreApart(t *testing.T) {
	b := append(make([]byte, 0, 100), "123456789"...)
	sealed := digest.Seal(b)
	payload, _ := digest.Open(sealed)
	clear(sealed)
	_ = append(sealed[:0], "changed"...)
	if string(b) != "123456789" || string(payload) != "123456789" {
		t.Error("a change of the sealed byte string changed the payload")
	}
	sealed = digest.Seal(b)
	payload, _ = digest.Open(sealed)
	clear(payload)
	_ = append(payload, "changed"...)
	if string(sealed) != "123456789\x83\x92\x06\xe3" || string(b) != "123456789" {
		t.Error("a change of the payload changed the sealed byte string")
	}
}

func TestP2_1CallsAreApart(t *testing.T) {
	b := []byte("123456789")
	for range 3 {
		if digest.Of(b) != 0xE3069283 || digest.Print(digest.Of(b)) != "e3069283" || digest.Join(1, 2, 3) != modelJoin(1, 2, 3) {
			t.Error("a call changed the result of a later one")
		}
		digest.More(0xFFFFFFFF, []byte("other"))
		digest.Join(0xFFFFFFFF, 0, 1000)
	}
}

// P2.2

func checkParts(t *testing.T, a, b []byte) {
	t.Helper()
	want := digest.Of(append(append([]byte(nil), a...), b...))
	if h := digest.More(digest.Of(a), b); h != want {
		t.Fatalf("More of %x and %x: %08x, want %08x", a, b, h, want)
	}
	if h := digest.Join(digest.Of(a), digest.Of(b), len(b)); h != want {
		t.Fatalf("Join of %x and %x: %08x, want %08x", a, b, h, want)
	}
}

func TestP2_2Parts(t *testing.T) {
	g := rand.New(rand.NewSource(7))
	whole := bytesOf(g, 200)
	for size := range whole {
		checkParts(t, whole[:size], whole[size:])
	}
	for range 3000 {
		checkParts(t, anyBytes(g, 30), anyBytes(g, 80))
	}
	checkParts(t, nil, nil)
	checkParts(t, whole, nil)
	checkParts(t, nil, whole)
}

func TestP2_2PartsOfManyBytes(t *testing.T) {
	g := rand.New(rand.NewSource(8))
	whole := bytesOf(g, 1<<18+5)
	want := digest.Of(whole)
	for _, size := range []int{0, 1, 5, 1 << 10, 1 << 17, 1<<18 - 1, 1 << 18, 1<<18 + 4, 1<<18 + 5} {
		a, b := whole[:size], whole[size:]
		if digest.More(digest.Of(a), b) != want || digest.Join(digest.Of(a), digest.Of(b), len(b)) != want {
			t.Errorf("divided behind %d bytes", size)
		}
	}
}

func TestP2_2JoinInAnyOrder(t *testing.T) {
	g := rand.New(rand.NewSource(9))
	for range 500 {
		a, b, c := anyBytes(g, 40), anyBytes(g, 40), anyBytes(g, 40)
		want := digest.Of(bytes.Join([][]byte{a, b, c}, nil))
		x, y, z := digest.Of(a), digest.Of(b), digest.Of(c)
		first := digest.Join(digest.Join(x, y, len(b)), z, len(c))
		last := digest.Join(x, digest.Join(y, z, len(c)), len(b)+len(c))
		if first != want || last != want {
			t.Fatalf("%08x, %08x, want %08x", first, last, want)
		}
	}
}

// P2.3

// eachBurst calls f with changed byte strings, whose first changed bit is at each place, and whose last one is at most 31 bits behind it: all bursts of at most 9 bits, and others.
func eachBurst(g *rand.Rand, b []byte, f func(changed []byte)) {
	for place := range 8 * len(b) {
		patterns := []uint32{0x80000001, 0xFFFFFFFF, 0x82F63B78, 0x05EC76F1, 0x1EDC6F41}
		for p := uint32(1); p < 512; p += 2 {
			patterns = append(patterns, p)
		}
		for range 30 {
			patterns = append(patterns, g.Uint32())
		}
		for _, p := range patterns {
			f(add(b, p|1, place))
		}
	}
}

func TestP2_3Bursts(t *testing.T) {
	g := rand.New(rand.NewSource(10))
	for _, size := range []int{1, 2, 3, 4, 5, 8, 20} {
		b := bytesOf(g, size)
		h := digest.Of(b)
		eachBurst(g, b, func(changed []byte) {
			if digest.Of(changed) == h {
				t.Fatalf("%x and %x have the same checksum", b, changed)
			}
		})
	}
}

func TestP2_3ChangedSealsAreNotOpened(t *testing.T) {
	g := rand.New(rand.NewSource(11))
	for _, size := range []int{0, 1, 2, 4, 5, 8, 20} {
		sealed := digest.Seal(bytesOf(g, size))
		if _, e := digest.Open(sealed); e != api.OK {
			t.Fatalf("%x is not opened", sealed)
		}
		eachBurst(g, sealed, func(changed []byte) {
			if b, e := digest.Open(changed); e != api.ErrSum || len(b) != 0 {
				t.Fatalf("%x instead of %x: %x, %s", changed, sealed, b, api.Name(e))
			}
		})
	}
}

// P2.4

func TestP2_4Linear(t *testing.T) {
	g := rand.New(rand.NewSource(12))
	for i := range 3000 {
		size := i % 100
		a, b, c := bytesOf(g, size), bytesOf(g, size), bytesOf(g, size)
		if i%7 == 0 {
			copy(b, a)
		}
		sum := make([]byte, size)
		for j := range sum {
			sum[j] = a[j] ^ b[j] ^ c[j]
		}
		if h, want := digest.Of(sum), digest.Of(a)^digest.Of(b)^digest.Of(c); h != want {
			t.Fatalf("the sum of %x, %x and %x: %08x, want %08x", a, b, c, h, want)
		}
	}
}

// P2.5

func TestP2_5OpenReturnsThePayload(t *testing.T) {
	g := rand.New(rand.NewSource(13))
	payloads := [][]byte{nil, {}, {0}, {0, 0, 0, 0}, []byte("123456789"), digest.Seal(nil), digest.Seal([]byte("a")), bytesOf(g, 1<<18)}
	for range 2000 {
		payloads = append(payloads, anyBytes(g, 100))
	}
	for _, b := range payloads {
		if got, e := digest.Open(digest.Seal(b)); e != api.OK || !bytes.Equal(got, b) {
			t.Fatalf("%x: %x, %s", b, got, api.Name(e))
		}
	}
}

func TestP2_5WhatOpenAcceptsIsSealed(t *testing.T) {
	accepted := 0
	check := func(b []byte) {
		payload, e := digest.Open(b)
		if e == api.OK {
			accepted++
		}
		if e == api.OK && !bytes.Equal(digest.Seal(payload), b) {
			t.Fatalf("%x is accepted as %x", b, payload)
		}
	}
	g := rand.New(rand.NewSource(14))
	for range 300 {
		sealed := digest.Seal(anyBytes(g, 6))
		accepted = 0
		for place := range sealed {
			for c := range 256 {
				changed := bytes.Clone(sealed)
				changed[place] = byte(c)
				check(changed)
			}
		}
		if accepted != len(sealed) {
			t.Fatalf("%d of the byte strings that differ from %x in at most a byte are accepted", accepted, sealed)
		}
		for size := range sealed {
			check(sealed[:size])
		}
		check(anyBytes(g, 9))
	}
}

func TestP2_5ParseReturnsWhatWasPrinted(t *testing.T) {
	g := rand.New(rand.NewSource(15))
	for range 1000 {
		for _, h := range sums(g) {
			if got, e := digest.Parse(digest.Print(h)); got != h || e != api.OK {
				t.Fatalf("%08x: %08x, %s", h, got, api.Name(e))
			}
		}
	}
}

func TestP2_5WhatParseAcceptsIsPrinted(t *testing.T) {
	g := rand.New(rand.NewSource(16))
	const likely = "0123456789abcdef0123456789abcdef0123456789abcdefABCDEFgx+-_ "
	accepted := 0
	for range 20000 {
		b := make([]byte, 7+g.Intn(3))
		for i := range b {
			b[i] = likely[g.Intn(len(likely))]
		}
		h, e := digest.Parse(string(b))
		if e == api.OK {
			accepted++
		}
		if e == api.OK && digest.Print(h) != string(b) {
			t.Fatalf("%q is accepted as %q", b, digest.Print(h))
		}
	}
	if accepted == 0 {
		t.Error("nothing is accepted")
	}
}
