package ports_test

import (
	"bytes"
	"errors"
	"math"
	"math/rand"
	"slices"
	"testing"

	"linkboy/addr"
	"linkboy/api"
	"linkboy/octets"
	"linkboy/ports"
)

// at is the address of a right text.
func at(s string) api.Addr {
	a, err := addr.Parse(s)
	if err != nil {
		panic(s)
	}
	return a
}

// of is an address's text and a number as a point, be it one or not.
func of(s string, port int) api.Point { return api.Point{Addr: at(s), Port: port} }

// bad is an address that isn't right: of four noughts, with a bit behind them.
func bad(place int) api.Addr {
	a := api.Addr{}
	a.B[place] = 1
	return a
}

// far is numbers that are no ports, those among them that would be one modulo 2^16 or 2^32.
func far() []int {
	return []int{0, -1, -80, -65535, -65536, -65456, 65536, 65537, 65616, 1 << 31, 1<<32 + 80, 1<<40 + 80, -1<<32 + 80, math.MaxInt, math.MinInt, math.MinInt + 80}
}

// wrongs is what is no point.
func wrongs() []api.Point {
	list := []api.Point{{}, {Addr: api.Addr{Six: true}}}
	for _, n := range far() {
		list = append(list, of("10.0.0.1", n), of("::1", n), of("0.0.0.0", n), of("::", n))
	}
	for place := 4; place < 16; place++ {
		for _, n := range []int{1, 80, 65535, 0, 65536} {
			list = append(list, api.Point{Addr: bad(place), Port: n})
		}
	}
	return list
}

// some is a point of few different ones, so that many are alike in a part.
func some(chance *rand.Rand) api.Point {
	a := api.Addr{Six: chance.Intn(2) > 0}
	for i := range addr.Bytes(a) {
		a.B[i] = []byte{0, 0, 0, 0, 1, 128, 255}[chance.Intn(7)]
	}
	port := []int{1, 2, 80, 255, 256, 257, 8080, 32768, 65534, 65535}[chance.Intn(10)]
	if chance.Intn(2) > 0 {
		port = 1 + chance.Intn(65535)
	}
	return api.Point{Addr: a, Port: port}
}

// near is any numbers as a point, of which many differ by little.
func near(chance *rand.Rand) api.Point {
	p := api.Point{Addr: api.Addr{Six: chance.Intn(2) > 0}, Port: []int{math.MinInt, -1, 0, 1, 2, 65536, math.MaxInt}[chance.Intn(7)]}
	p.Addr.B[[]int{0, 3, 4, 15}[chance.Intn(4)]] = []byte{0, 1, 255}[chance.Intn(3)]
	return p
}

// P4.1: a port is a number from 1 to 65535.
func TestP4_1_Right(t *testing.T) {
	for n := -70000; n < 140000; n++ {
		if got := ports.Right(n); got != (n >= 1 && n <= 65535) {
			t.Fatalf("%d is a port: %v", n, got)
		}
	}
	for _, n := range far() {
		if ports.Right(n) {
			t.Fatalf("%d is no port", n)
		}
	}
}

// P4.1: a protocol is 6 or 17, and those alone have words, by which they are found.
func TestP4_1_Protocols(t *testing.T) {
	words := map[int]string{6: "tcp", 17: "udp"}
	numbers := append(far(), 262, 273, -250, -239, 65542, 65553, 1<<32+6, 1<<32+17, -6, -17)
	for n := -300; n < 300; n++ {
		numbers = append(numbers, n)
	}
	for _, n := range numbers {
		word, is := words[n]
		if got := ports.Proto(n); got != is {
			t.Fatalf("%d is a protocol: %v", n, got)
		}
		if got := ports.Word(n); got != word {
			t.Fatalf("%d's word: %q; want %q", n, got, word)
		}
		if !is {
			continue
		}
		if got, err := ports.Named(word); got != n || err != nil {
			t.Fatalf("%q: %d, %v; want %d", word, got, err, n)
		}
	}
}

// P4.1: any other word is ErrProto, beside a nought.
func TestP4_1_NamedWrong(t *testing.T) {
	for _, word := range []string{
		"", " ", "TCP", "UDP", "Tcp", "Udp", "tcP", "tc", "cp", "ud", "dp", "t", "u", "tcpp", "udpp", "tcp ", " tcp", "udp ", " udp", "tcp\x00", "udp\n",
		"tcpudp", "tcp,udp", "tcp6", "udp4", "sctp", "icmp", "6", "17", "tdp", "ucp", "t\u0441p",
	} {
		if got, err := ports.Named(word); got != 0 || !errors.Is(err, api.ErrProto) {
			t.Fatalf("%q: %d, %v; want ErrProto", word, got, err)
		}
	}
}

// P4.1: a point is a right address and a port.
func TestP4_1_Point(t *testing.T) {
	for _, s := range []string{"0.0.0.0", "10.0.0.1", "255.255.255.255", "::", "::1", "2001:db8::1", "ffff:ffff:ffff:ffff:ffff:ffff:ffff:ffff"} {
		for _, n := range []int{1, 2, 80, 255, 256, 32767, 32768, 65534, 65535} {
			if !ports.Point(of(s, n)) {
				t.Fatalf("%s and %d are a point", s, n)
			}
		}
	}
	for _, p := range wrongs() {
		if ports.Point(p) {
			t.Fatalf("%v is no point", p)
		}
	}
}

// P4.1: by the addresses, those of four bytes first, then by the ports, be they points or not.
func TestP4_1_Compare(t *testing.T) {
	row := []api.Point{
		of("0.0.0.0", math.MinInt), of("0.0.0.0", -1), {}, of("0.0.0.0", 1), of("0.0.0.0", 256), of("0.0.0.0", 65535), of("0.0.0.0", 65536), of("0.0.0.0", math.MaxInt),
		{Addr: bad(15), Port: 1}, {Addr: bad(15), Port: 80}, {Addr: bad(4), Port: 0},
		of("9.255.255.255", 65535), of("10.0.0.0", 9), of("10.0.0.0", 80), of("10.0.0.0", 443), of("10.0.0.1", 0), of("10.0.0.1", 79), of("128.0.0.0", 1),
		of("255.255.255.255", 65535), of("::", math.MinInt), of("::", 0), of("::", 80), of("::", math.MaxInt), of("::1", 1), of("::1", 2), of("::2", 1), of("8000::", 1),
	}
	for i, a := range row {
		for k, b := range row {
			want := 0
			if i < k {
				want = -1
			} else if i > k {
				want = 1
			}
			if got := ports.Compare(a, b); got != want {
				t.Fatalf("%v against %v: %d; want %d", a, b, got, want)
			}
		}
	}
}

// least takes from points the least one again and again, and leaves all that are like it out.
func least(list []api.Point) []api.Point {
	left, rising := slices.Clone(list), []api.Point{}
	for len(left) > 0 {
		low := left[0]
		for _, p := range left {
			if ports.Compare(p, low) < 0 {
				low = p
			}
		}
		rising = append(rising, low)
		left = slices.DeleteFunc(left, func(p api.Point) bool { return p == low })
	}
	return rising
}

// P4.1: rising, each once, also of what is no point.
func TestP4_1_Sort(t *testing.T) {
	list := []api.Point{of("::1", 80), of("10.0.0.1", 443), of("10.0.0.1", 80), of("::1", 80), of("9.0.0.0", 8080), of("10.0.0.1", 443), {}, of("10.0.0.1", 80)}
	want := []api.Point{{}, of("9.0.0.0", 8080), of("10.0.0.1", 80), of("10.0.0.1", 443), of("::1", 80)}
	if got := ports.Sort(list); !slices.Equal(got, want) {
		t.Fatalf("%v; want %v", got, want)
	}
	if got := ports.Sort(wrongs()); !slices.Equal(got, least(wrongs())) {
		t.Fatalf("%v", got)
	}
	for _, none := range [][]api.Point{nil, {}} {
		if got := ports.Sort(none); len(got) != 0 {
			t.Fatalf("%v of nothing", got)
		}
	}
	chance := rand.New(rand.NewSource(41))
	for range 4000 {
		list := make([]api.Point, chance.Intn(30))
		for i := range list {
			list[i] = near(chance)
			if chance.Intn(3) == 0 {
				list[i] = some(chance)
			}
		}
		if got := ports.Sort(list); !slices.Equal(got, least(list)) {
			t.Fatalf("%v: %v; want %v", list, got, least(list))
		}
	}
}

// P4.1: Sort leaves its list, and the room behind it, as it was, and its answer is apart from it.
func TestP4_1_SortApart(t *testing.T) {
	for _, list := range [][]api.Point{
		{of("::2", 2), of("::1", 1), of("::2", 2)},
		{of("::1", 1), of("::1", 1), of("::1", 2)},
		{of("::1", 1), of("::1", 2), of("::1", 3)},
		{of("::1", 1)},
		{},
	} {
		whole := append(slices.Clone(list), of("1.1.1.1", 1), of("1.1.1.1", 1), of("0.0.0.0", 7))
		before := slices.Clone(whole)
		first := ports.Sort(whole[:len(list)])
		second := ports.Sort(whole[:len(list)])
		for _, answer := range [][]api.Point{first, append(first[:cap(first)], of("5.5.5.5", 5))} {
			for i := range answer {
				answer[i] = of("7.7.7.7", 7)
			}
		}
		if !slices.Equal(whole, before) {
			t.Fatalf("%v is now %v", before, whole)
		}
		if !slices.Equal(second, least(list)) {
			t.Fatalf("the second answer is now %v", second)
		}
	}
}

// P4.1: the address as layer 2 puts it, and the port in two bytes, modulo 65536.
func TestP4_1_Put(t *testing.T) {
	for _, x := range []struct {
		p    api.Point
		want []byte
	}{
		{of("10.1.2.3", 80), []byte{4, 10, 1, 2, 3, 0, 80}},
		{of("10.1.2.3", 258), []byte{4, 10, 1, 2, 3, 1, 2}},
		{of("10.1.2.3", 8080), []byte{4, 10, 1, 2, 3, 31, 144}},
		{of("10.1.2.3", 1), []byte{4, 10, 1, 2, 3, 0, 1}},
		{of("10.1.2.3", 65535), []byte{4, 10, 1, 2, 3, 255, 255}},
		{of("::1", 443), []byte{6, 0, 0, 0, 0, 0, 0, 0, 0, 0, 0, 0, 0, 0, 0, 0, 1, 1, 187}},
		{api.Point{}, []byte{4, 0, 0, 0, 0, 0, 0}},
		{of("1.2.3.4", 65536), []byte{4, 1, 2, 3, 4, 0, 0}},
		{of("1.2.3.4", 65616), []byte{4, 1, 2, 3, 4, 0, 80}},
		{of("1.2.3.4", 1<<40+258), []byte{4, 1, 2, 3, 4, 1, 2}},
		{of("1.2.3.4", -1), []byte{4, 1, 2, 3, 4, 255, 255}},
		{of("1.2.3.4", -65535), []byte{4, 1, 2, 3, 4, 0, 1}},
		{of("1.2.3.4", -256), []byte{4, 1, 2, 3, 4, 255, 0}},
		{of("1.2.3.4", math.MaxInt), []byte{4, 1, 2, 3, 4, 255, 255}},
		{of("1.2.3.4", math.MinInt), []byte{4, 1, 2, 3, 4, 0, 0}},
		{api.Point{Addr: bad(7), Port: 3}, []byte{4, 0, 0, 0, 0, 0, 3}},
	} {
		first, second := ports.Put(x.p), ports.Put(x.p)
		if !bytes.Equal(first, x.want) {
			t.Fatalf("%v as it is put: %v; want %v", x.p, first, x.want)
		}
		clear(first[:cap(first)])
		if !bytes.Equal(second, x.want) {
			t.Fatalf("%v as it was put is now %v", x.p, second)
		}
	}
}

// P4.1: what Put puts of a point is read, and the place is behind it.
func TestP4_1_Read(t *testing.T) {
	chance := rand.New(rand.NewSource(42))
	for range 20000 {
		p, q := some(chance), some(chance)
		first, second := ports.Put(p), ports.Put(q)
		c := octets.At(append(append([]byte{7}, first...), second...))
		c.Num(1)
		if got := ports.Read(c); got != p || c.Err() != nil || c.Place() != 1+len(first) {
			t.Fatalf("read %v at %d, %v; want %v", got, c.Place(), c.Err(), p)
		}
		if got := ports.Read(c); got != q || c.End() != nil {
			t.Fatalf("read %v, %v; want %v", got, c.End(), q)
		}
	}
}

// P4.1: every number of two bytes: nought is ErrRange, behind all of its bytes; any other one is the port.
func TestP4_1_ReadPorts(t *testing.T) {
	for _, s := range []string{"0.0.0.0", "10.0.0.1", "::", "::1"} {
		for n := range 65536 {
			want := of(s, n)
			b := append(addr.Put(want.Addr), byte(n>>8), byte(n), 1, 2, 3)
			c := octets.At(b)
			got := ports.Read(c)
			if n == 0 {
				if got != (api.Point{}) || !errors.Is(c.Err(), api.ErrRange) || c.Place() != len(b)-3 {
					t.Fatalf("read %v at %d, %v; want ErrRange", got, c.Place(), c.Err())
				}
			} else if got != want || c.Err() != nil || c.Left() != 3 {
				t.Fatalf("read %v at %d, %v; want %v", got, c.Place(), c.Err(), want)
			}
		}
	}
}

// P4.1: bytes that are missing are ErrShort, behind the parts that could be read.
func TestP4_1_ReadShort(t *testing.T) {
	for _, whole := range []api.Point{of("10.0.0.1", 80), of("2001:db8::1", 65535), {}, of("::", 0)} {
		put := ports.Put(whole)
		for n := range put {
			c := octets.At(put[:n])
			if got := ports.Read(c); got != (api.Point{}) || !errors.Is(c.Err(), api.ErrShort) {
				t.Fatalf("read %v of %v, %v; want ErrShort", got, put[:n], c.Err())
			}
			want := min(n, 1)
			if n >= len(put)-2 {
				want = len(put) - 2
			}
			if c.Place() != want {
				t.Fatalf("place %d of %v; want %d", c.Place(), put[:n], want)
			}
		}
	}
}

// P4.1: another first byte is layer 2's ErrKind, whatever follows.
func TestP4_1_ReadKind(t *testing.T) {
	for mark := range 256 {
		if mark == 4 || mark == 6 {
			continue
		}
		for _, rest := range [][]byte{{}, {0, 80}, {1, 2, 3, 4, 0, 80}, make([]byte, 18)} {
			c := octets.At(append([]byte{byte(mark)}, rest...))
			if got := ports.Read(c); got != (api.Point{}) || !errors.Is(c.Err(), api.ErrKind) || c.Place() != 1 {
				t.Fatalf("read %v at %d, %v; want ErrKind", got, c.Place(), c.Err())
			}
		}
	}
}

// P4.1: a cursor that remembers an error stays, and keeps that; no cursor, no point.
func TestP4_1_ReadBehindAnError(t *testing.T) {
	for _, b := range [][]byte{ports.Put(of("10.0.0.1", 80)), ports.Put(of("::", 0)), {9}, {}} {
		c := octets.At(b)
		c.Fail(api.ErrSum)
		if got := ports.Read(c); got != (api.Point{}) || !errors.Is(c.Err(), api.ErrSum) || c.Place() != 0 {
			t.Fatalf("read %v at %d, %v", got, c.Place(), c.Err())
		}
	}
	c := octets.At(append([]byte{4, 10, 0, 0, 1, 0, 0}, ports.Put(of("10.0.0.1", 80))...))
	ports.Read(c)
	if got := ports.Read(c); got != (api.Point{}) || !errors.Is(c.Err(), api.ErrRange) || c.Place() != 7 {
		t.Fatalf("read %v at %d, %v", got, c.Place(), c.Err())
	}
	if got := ports.Read(nil); got != (api.Point{}) {
		t.Fatalf("read %v of no cursor", got)
	}
}
