package cidr_test

import (
	"bytes"
	"errors"
	"math"
	"math/rand"
	"strings"
	"testing"

	"linkboy/addr"
	"linkboy/api"
	"linkboy/cidr"
	"linkboy/octets"
)

// at is the address of a right text.
func at(s string) api.Addr {
	a, err := addr.Parse(s)
	if err != nil {
		panic(s)
	}
	return a
}

// of is an address's text and bits as a cidr, be it right or not.
func of(s string, bits int) api.Cidr { return api.Cidr{Addr: at(s), Bits: bits} }

// bad is an address that isn't right: of four noughts, with a bit behind them.
func bad(place int) api.Addr {
	a := api.Addr{}
	a.B[place] = 1
	return a
}

// binary is an address's bits, a figure each.
func binary(a api.Addr) string {
	s := strings.Builder{}
	for _, b := range addr.Bytes(a) {
		for i := range 8 {
			s.WriteByte('0' + b>>(7-i)&1)
		}
	}
	return s.String()
}

// wrongs is cidrs that aren't right, one for each reason.
func wrongs() []api.Cidr {
	return []api.Cidr{
		of("10.0.0.0", -1), of("10.0.0.0", 33), of("10.0.0.0", 128), of("10.0.0.0", 129), of("0.0.0.0", -1), of("0.0.0.0", 33),
		of("10.0.0.0", 256), of("10.0.0.0", 264), of("10.0.0.0", -248), of("10.0.0.0", math.MaxInt), of("10.0.0.0", math.MinInt),
		of("::", -1), of("::", 129), of("::", 256), of("::", 1<<32), of("::", math.MaxInt), of("::", math.MinInt),
		of("10.0.0.1", 8), of("10.0.0.1", 31), of("128.0.0.0", 0), of("192.0.0.0", 1), of("1.1.0.0", 15), of("1.1.1.0", 23),
		of("::1", 127), of("::1", 0), of("::1", 32), of("8000::", 0), of("2001:db8::", 28), of("2001:db8::1", 64),
		{Addr: bad(4), Bits: 0}, {Addr: bad(4), Bits: 32}, {Addr: bad(15), Bits: 0}, {Addr: bad(15), Bits: 32}, {Addr: bad(15), Bits: 128},
	}
}

// some is an address of few different ones, so that many lie close together.
func some(chance *rand.Rand) api.Addr {
	a := api.Addr{Six: chance.Intn(2) > 0}
	for i := range addr.Bits(a) / 8 {
		a.B[i] = []byte{0, 0, 0, 1, 128, 255}[chance.Intn(6)]
	}
	return a
}

// cut is a cidr of an address made by chance, mostly of few bits or of nearly all.
func cut(chance *rand.Rand) api.Cidr {
	a := some(chance)
	bits := chance.Intn(addr.Bits(a) + 1)
	switch chance.Intn(3) {
	case 0:
		bits = min(bits, chance.Intn(12))
	case 1:
		bits = max(bits, addr.Bits(a)-chance.Intn(5))
	}
	c, err := cidr.Of(a, bits)
	if err != nil {
		panic(err)
	}
	return c
}

// P3.1: which numbers of bits an address has, and that all bits behind them are noughts.
func TestP3_1_Right(t *testing.T) {
	for _, c := range []api.Cidr{
		{}, of("0.0.0.0", 32), of("10.0.0.0", 8), of("10.0.0.0", 7), of("10.0.0.0", 32), of("10.1.2.3", 32), of("255.255.255.255", 32),
		of("255.255.255.254", 31), of("128.0.0.0", 1), of("::", 0), of("::", 128), of("::", 33), of("8000::", 1), of("::1", 128), of("2001:db8::", 29),
		of("2001:db8::", 32), of("ffff:ffff:ffff:ffff:ffff:ffff:ffff:ffff", 128), of("ffff:ffff:ffff:ffff:ffff:ffff:ffff:fffe", 127),
	} {
		if !cidr.Right(c) {
			t.Fatalf("%v is right", c)
		}
	}
	for _, c := range wrongs() {
		if cidr.Right(c) {
			t.Fatalf("%v isn't right", c)
		}
	}
}

// P3.1: an address with one bit set, and every number of bits from below none to beyond all.
func TestP3_1_EveryBit(t *testing.T) {
	for _, six := range []bool{false, true} {
		most := addr.Bits(api.Addr{Six: six})
		for place := range most {
			a := api.Addr{Six: six}
			a.B[place/8] = 128 >> (place % 8)
			for bits := -3; bits < 140; bits++ {
				want := bits > place && bits <= most
				if got := cidr.Right(api.Cidr{Addr: a, Bits: bits}); got != want {
					t.Fatalf("%v with %d bits: %v", a, bits, got)
				}
				// The cidr of the first bits has the bit just if it is among them.
				whole := api.Cidr{Addr: api.Addr{Six: six}, Bits: bits}
				if want {
					whole.Addr = a
				}
				ofBits(t, a, bits, whole)
			}
		}
	}
}

// ofBits asks Of of a right address, where want is what it would be if the bits are such a number.
func ofBits(t *testing.T, a api.Addr, bits int, want api.Cidr) {
	t.Helper()
	got, err := cidr.Of(a, bits)
	if bits < 0 || bits > addr.Bits(a) {
		if got != (api.Cidr{}) || !errors.Is(err, api.ErrRange) {
			t.Fatalf("%d bits of %v: %v, %v; want ErrRange", bits, a, got, err)
		}
		return
	}
	if got != want || err != nil {
		t.Fatalf("%d bits of %v: %v, %v; want %v", bits, a, got, err, want)
	}
}

// P3.1: the first bits of an address, the others made noughts.
func TestP3_1_Of(t *testing.T) {
	for _, x := range []struct {
		from string
		bits int
		want string
	}{
		{"10.1.2.3", 0, "0.0.0.0"},
		{"10.1.2.3", 8, "10.0.0.0"},
		{"10.1.2.3", 15, "10.0.0.0"},
		{"10.1.2.3", 16, "10.1.0.0"},
		{"10.1.2.3", 31, "10.1.2.2"},
		{"10.1.2.3", 32, "10.1.2.3"},
		{"255.255.255.255", 1, "128.0.0.0"},
		{"255.255.255.255", 9, "255.128.0.0"},
		{"255.255.255.255", 23, "255.255.254.0"},
		{"2001:db8::1", 0, "::"},
		{"2001:db8::1", 32, "2001:db8::"},
		{"2001:dbf::1", 29, "2001:db8::"},
		{"2001:db8::1", 127, "2001:db8::"},
		{"2001:db8::1", 128, "2001:db8::1"},
		{"ffff:ffff:ffff:ffff:ffff:ffff:ffff:ffff", 65, "ffff:ffff:ffff:ffff:8000::"},
	} {
		ofBits(t, at(x.from), x.bits, of(x.want, x.bits))
	}
}

// P3.1: what Of can't be: an address that isn't right is told ahead of a number that isn't such.
func TestP3_1_OfWrong(t *testing.T) {
	for place := 4; place < 16; place++ {
		for _, bits := range []int{0, 8, 32, 33, 128, 129, -1, math.MaxInt, math.MinInt} {
			if got, err := cidr.Of(bad(place), bits); got != (api.Cidr{}) || !errors.Is(err, api.ErrAddress) {
				t.Fatalf("%d bits of %v: %v, %v; want ErrAddress", bits, bad(place), got, err)
			}
		}
	}
	for _, bits := range []int{-1, -8, -248, 129, 256, 264, 1 << 32, math.MaxInt, math.MinInt} {
		for _, s := range []string{"0.0.0.0", "10.1.2.3", "::", "2001:db8::1"} {
			ofBits(t, at(s), bits, api.Cidr{})
		}
	}
	for bits := 33; bits <= 128; bits++ {
		ofBits(t, at("10.1.2.3"), bits, api.Cidr{})
	}
}

// P3.1: an address of as many bytes is contained, if it begins with the cidr's bits.
func TestP3_1_Contains(t *testing.T) {
	for _, x := range []struct {
		c    api.Cidr
		a    string
		want bool
	}{
		{of("10.0.0.0", 8), "10.1.2.3", true},
		{of("10.0.0.0", 8), "10.0.0.0", true},
		{of("10.0.0.0", 8), "10.255.255.255", true},
		{of("10.0.0.0", 8), "11.0.0.0", false},
		{of("10.0.0.0", 8), "9.255.255.255", false},
		{of("10.0.0.0", 7), "11.1.1.1", true},
		{of("10.0.0.0", 7), "12.0.0.0", false},
		{of("10.1.2.2", 31), "10.1.2.3", true},
		{of("10.1.2.2", 31), "10.1.2.1", false},
		{of("10.1.2.3", 32), "10.1.2.3", true},
		{of("10.1.2.3", 32), "10.1.2.2", false},
		{of("0.0.0.0", 0), "255.255.255.255", true},
		{of("0.0.0.0", 0), "0.0.0.0", true},
		{of("0.0.0.0", 0), "::", false},
		{of("::", 0), "0.0.0.0", false},
		{of("::", 0), "ffff::1", true},
		{of("::", 128), "::", true},
		{of("::", 128), "::1", false},
		{of("::", 128), "0.0.0.0", false},
		{of("::", 96), "0.0.0.0", false},
		{of("a00::", 8), "10.1.2.3", false},
		{of("10.0.0.0", 8), "a01:203::", false},
		{of("10.0.0.0", 32), "a00::", false},
		{of("2001:db8::", 32), "2001:db8:1::5", true},
		{of("2001:db8::", 32), "2001:db9::", false},
		{of("2001:db8::", 29), "2001:dbf::", true},
	} {
		if got := cidr.Contains(x.c, at(x.a)); got != x.want {
			t.Fatalf("%v contains %s: %v", x.c, x.a, got)
		}
	}
}

// P3.1: what isn't right contains nothing and is contained by nothing, covers nothing and is covered by nothing.
func TestP3_1_NothingOfWrong(t *testing.T) {
	alls := []api.Cidr{of("0.0.0.0", 0), of("::", 0), of("10.0.0.0", 8), of("10.0.0.0", 32), of("::1", 128), of("::", 128)}
	alls = append(alls, wrongs()...)
	for _, w := range wrongs() {
		addrs := []api.Addr{w.Addr, {}, {Six: true}, at("10.0.0.1"), at("128.0.0.0"), at("::1"), bad(4), bad(15)}
		for _, a := range addrs {
			if cidr.Contains(w, a) {
				t.Fatalf("%v contains %v", w, a)
			}
		}
		for _, c := range alls {
			if cidr.Covers(w, c) || cidr.Covers(c, w) {
				t.Fatalf("%v and %v", w, c)
			}
		}
	}
	for place := 4; place < 16; place++ {
		for _, c := range alls {
			if cidr.Contains(c, bad(place)) || cidr.Any(alls, bad(place)) {
				t.Fatalf("%v contains %v", c, bad(place))
			}
		}
	}
}

// P3.1: a cidr covers one whose addresses it all contains: itself, and narrower ones.
func TestP3_1_Covers(t *testing.T) {
	for _, x := range []struct {
		c, d api.Cidr
		want bool
	}{
		{of("10.0.0.0", 8), of("10.0.0.0", 8), true},
		{of("10.0.0.0", 8), of("10.0.0.0", 9), true},
		{of("10.0.0.0", 9), of("10.0.0.0", 8), false},
		{of("10.0.0.0", 8), of("10.1.2.3", 32), true},
		{of("10.0.0.0", 8), of("11.0.0.0", 8), false},
		{of("10.0.0.0", 8), of("10.0.0.0", 7), false},
		{of("10.0.0.0", 7), of("11.0.0.0", 8), true},
		{of("0.0.0.0", 0), of("0.0.0.0", 0), true},
		{of("0.0.0.0", 0), of("128.0.0.0", 1), true},
		{of("0.0.0.0", 1), of("0.0.0.0", 0), false},
		{of("0.0.0.0", 0), of("::", 0), false},
		{of("::", 0), of("0.0.0.0", 0), false},
		{of("::", 0), of("10.0.0.0", 8), false},
		{of("0.0.0.0", 32), of("::", 128), false},
		{of("a00::", 8), of("10.0.0.0", 8), false},
		{of("10.0.0.0", 8), of("a00::", 8), false},
		{of("::", 0), of("::1", 128), true},
		{of("::1", 128), of("::1", 128), true},
		{of("::", 127), of("::1", 128), true},
		{of("::", 127), of("::2", 128), false},
	} {
		if got := cidr.Covers(x.c, x.d); got != x.want {
			t.Fatalf("%v covers %v: %v", x.c, x.d, got)
		}
	}
}

// P3.1: Of, Contains, Covers and Right against the addresses' bits as texts.
func TestP3_1_AgainstTexts(t *testing.T) {
	chance := rand.New(rand.NewSource(31))
	for range 60000 {
		a, c, d := some(chance), cut(chance), cut(chance)
		prefix := binary(c.Addr)[:c.Bits]
		if want := a.Six == c.Addr.Six && strings.HasPrefix(binary(a), prefix); cidr.Contains(c, a) != want {
			t.Fatalf("%v contains %v: %v", c, a, !want)
		}
		if want := d.Addr.Six == c.Addr.Six && strings.HasPrefix(binary(d.Addr)[:d.Bits], prefix); cidr.Covers(c, d) != want {
			t.Fatalf("%v covers %v: %v", c, d, !want)
		}
		if !cidr.Right(c) || strings.Contains(binary(c.Addr)[c.Bits:], "1") {
			t.Fatalf("%v is right", c)
		}
	}
}

// P3.1: by the addresses, those of four bytes first, then by fewer bits, be they right or not.
func TestP3_1_Compare(t *testing.T) {
	row := []api.Cidr{
		of("0.0.0.0", math.MinInt), of("0.0.0.0", -1), of("0.0.0.0", 0), of("0.0.0.0", 8), of("0.0.0.0", 32), of("0.0.0.0", 33), of("0.0.0.0", math.MaxInt),
		{Addr: bad(15), Bits: 0}, {Addr: bad(15), Bits: 32}, {Addr: bad(4), Bits: 1},
		of("9.255.255.255", 32), of("10.0.0.0", 7), of("10.0.0.0", 8), of("10.0.0.0", 32), of("10.0.0.1", 0), of("10.0.0.1", 32), of("128.0.0.0", 1),
		of("255.255.255.255", 32), of("::", math.MinInt), of("::", 0), of("::", 64), of("::", 128), of("::", 256), of("::1", 0), of("::1", 128), of("8000::", 1),
	}
	for i, a := range row {
		for k, b := range row {
			want := 0
			if i < k {
				want = -1
			} else if i > k {
				want = 1
			}
			if got := cidr.Compare(a, b); got != want {
				t.Fatalf("%v against %v: %d; want %d", a, b, got, want)
			}
		}
	}
}

// P3.1: one that contains it is enough, wherever it stands; those that aren't right count nothing.
func TestP3_1_Any(t *testing.T) {
	list := []api.Cidr{of("10.0.0.0", 8), of("10.0.0.1", 8), of("2001:db8::", 32), of("192.168.0.0", 16), of("::1", 128)}
	for s, want := range map[string]bool{
		"10.1.2.3": true, "192.168.5.5": true, "192.169.0.0": false, "11.0.0.0": false, "0.0.0.0": false,
		"2001:db8::7": true, "::1": true, "::": false, "a00::": false,
	} {
		if got := cidr.Any(list, at(s)); got != want {
			t.Fatalf("any contains %s: %v", s, got)
		}
	}
	if cidr.Any(nil, api.Addr{}) || cidr.Any([]api.Cidr{}, api.Addr{Six: true}) {
		t.Fatal("none contains nothing")
	}
	for _, w := range wrongs() {
		if cidr.Any(wrongs(), w.Addr) {
			t.Fatalf("%v is contained", w.Addr)
		}
	}
}

// P3.1: the address as layer 2 puts it, and a byte with the bits, modulo 256.
func TestP3_1_Put(t *testing.T) {
	for _, x := range []struct {
		c    api.Cidr
		want []byte
	}{
		{of("10.1.0.0", 16), []byte{4, 10, 1, 0, 0, 16}},
		{api.Cidr{}, []byte{4, 0, 0, 0, 0, 0}},
		{of("1.2.3.4", 32), []byte{4, 1, 2, 3, 4, 32}},
		{of("::1", 128), []byte{6, 0, 0, 0, 0, 0, 0, 0, 0, 0, 0, 0, 0, 0, 0, 0, 1, 128}},
		{of("2001:db8::", 32), []byte{6, 0x20, 1, 0xd, 0xb8, 0, 0, 0, 0, 0, 0, 0, 0, 0, 0, 0, 0, 32}},
		{of("1.2.3.4", 0), []byte{4, 1, 2, 3, 4, 0}},
		{of("1.2.3.4", 255), []byte{4, 1, 2, 3, 4, 255}},
		{of("1.2.3.4", 256), []byte{4, 1, 2, 3, 4, 0}},
		{of("1.2.3.4", 1<<40+264), []byte{4, 1, 2, 3, 4, 8}},
		{of("1.2.3.4", -1), []byte{4, 1, 2, 3, 4, 255}},
		{of("1.2.3.4", -255), []byte{4, 1, 2, 3, 4, 1}},
		{of("1.2.3.4", math.MaxInt), []byte{4, 1, 2, 3, 4, 255}},
		{of("1.2.3.4", math.MinInt), []byte{4, 1, 2, 3, 4, 0}},
		{api.Cidr{Addr: bad(7), Bits: 3}, []byte{4, 0, 0, 0, 0, 3}},
	} {
		if got := cidr.Put(x.c); !bytes.Equal(got, x.want) {
			t.Fatalf("%v as it is put: %v; want %v", x.c, got, x.want)
		}
	}
}

// P3.1: what Put puts of a right one is read, and the place is behind it.
func TestP3_1_Read(t *testing.T) {
	chance := rand.New(rand.NewSource(33))
	for range 20000 {
		c, d := cut(chance), cut(chance)
		first, second := cidr.Put(c), cidr.Put(d)
		cursor := octets.At(append(append([]byte{7}, first...), second...))
		cursor.Num(1)
		if got := cidr.Read(cursor); got != c || cursor.Err() != nil || cursor.Place() != 1+len(first) {
			t.Fatalf("read %v at %d, %v; want %v", got, cursor.Place(), cursor.Err(), c)
		}
		if got := cidr.Read(cursor); got != d || cursor.End() != nil {
			t.Fatalf("read %v, %v; want %v", got, cursor.End(), d)
		}
	}
}

// P3.1: one that isn't right is ErrRange, behind all of its bytes.
func TestP3_1_ReadRange(t *testing.T) {
	for _, b := range [][]byte{
		{4, 10, 0, 0, 0, 33}, {4, 10, 0, 0, 0, 128}, {4, 10, 0, 0, 0, 255}, {4, 0, 0, 0, 0, 33}, {4, 10, 0, 0, 1, 8}, {4, 10, 0, 0, 1, 31}, {4, 128, 0, 0, 0, 0},
		cidr.Put(of("::", 129)), cidr.Put(of("::", 255)), cidr.Put(of("::1", 127)), cidr.Put(of("8000::", 0)),
	} {
		c := octets.At(append(bytes.Clone(b), 1, 2, 3))
		if got := cidr.Read(c); got != (api.Cidr{}) || !errors.Is(c.Err(), api.ErrRange) {
			t.Fatalf("read %v of %v, %v; want ErrRange", got, b, c.Err())
		}
		if c.Place() != len(b) {
			t.Fatalf("place %d of %v", c.Place(), b)
		}
	}
}

// P3.1: bytes that are missing are ErrShort, behind the parts that could be read.
func TestP3_1_ReadShort(t *testing.T) {
	for _, whole := range []api.Cidr{of("10.0.0.0", 8), of("2001:db8::", 32), {}, of("::", 0)} {
		put := cidr.Put(whole)
		for n := range put {
			c := octets.At(put[:n])
			if got := cidr.Read(c); got != (api.Cidr{}) || !errors.Is(c.Err(), api.ErrShort) {
				t.Fatalf("read %v of %v, %v; want ErrShort", got, put[:n], c.Err())
			}
			want := min(n, 1)
			if n == len(put)-1 {
				want = n
			}
			if c.Place() != want {
				t.Fatalf("place %d of %v; want %d", c.Place(), put[:n], want)
			}
		}
	}
}

// P3.1: another first byte is layer 2's ErrKind, whatever follows.
func TestP3_1_ReadKind(t *testing.T) {
	for _, mark := range []byte{0, 1, 5, 7, 16, 255} {
		for _, rest := range [][]byte{{}, {1, 2, 3, 4, 255}, make([]byte, 17)} {
			c := octets.At(append([]byte{mark}, rest...))
			if got := cidr.Read(c); got != (api.Cidr{}) || !errors.Is(c.Err(), api.ErrKind) || c.Place() != 1 {
				t.Fatalf("read %v at %d, %v; want ErrKind", got, c.Place(), c.Err())
			}
		}
	}
}

// P3.1: a cursor that remembers an error stays, and keeps that; no cursor, no cidr.
func TestP3_1_ReadBehindAnError(t *testing.T) {
	for _, b := range [][]byte{cidr.Put(of("10.0.0.0", 8)), cidr.Put(of("::", 129)), {9}, {}} {
		c := octets.At(b)
		c.Fail(api.ErrSum)
		if got := cidr.Read(c); got != (api.Cidr{}) || !errors.Is(c.Err(), api.ErrSum) || c.Place() != 0 {
			t.Fatalf("read %v at %d, %v", got, c.Place(), c.Err())
		}
	}
	c := octets.At(append([]byte{4, 10, 0, 0, 1, 8}, cidr.Put(of("10.0.0.0", 8))...))
	cidr.Read(c)
	if got := cidr.Read(c); got != (api.Cidr{}) || !errors.Is(c.Err(), api.ErrRange) || c.Place() != 6 {
		t.Fatalf("read %v at %d, %v", got, c.Place(), c.Err())
	}
	if got := cidr.Read(nil); got != (api.Cidr{}) {
		t.Fatalf("read %v of no cursor", got)
	}
}
