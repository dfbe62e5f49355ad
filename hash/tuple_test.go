package hash_test

import (
	"bytes"
	"math"
	"math/rand"
	"slices"
	"testing"

	"linkboy/addr"
	"linkboy/api"
	"linkboy/hash"
	"linkboy/octets"
	"linkboy/ports"
)

// laid is a point's bytes as layer 4 puts it, told anew.
func laid(p api.Point) []byte {
	b := []byte{4, p.Addr.B[0], p.Addr.B[1], p.Addr.B[2], p.Addr.B[3]}
	if p.Addr.Six {
		b = append([]byte{6}, p.Addr.B[:]...)
	}
	port := (p.Port%65536 + 65536) % 65536
	return append(b, byte(port/256), byte(port%256))
}

// six is an address of sixteen bytes that go up from one.
func six(from byte) api.Addr {
	var b [16]byte
	for i := range b {
		b[i] = from + byte(i)
	}
	return addr.Six(b)
}

// ends is points of both kinds, and what is none.
func ends() []api.Point {
	wrong := api.Point{Addr: addr.Four(9, 8, 7, 6), Port: 53}
	wrong.Addr.B[4], wrong.Addr.B[15] = 1, 2
	return []api.Point{
		{Addr: addr.Four(10, 0, 0, 1), Port: 80},
		{Addr: addr.Four(10, 0, 0, 1), Port: 81},
		{Addr: addr.Four(10, 0, 0, 2), Port: 80},
		{Addr: addr.Four(255, 255, 255, 255), Port: 65535},
		{Addr: six(1), Port: 80},
		{Addr: six(2), Port: 443},
		{Addr: six(255), Port: 258},
		{},
		{Addr: api.Addr{Six: true}},
		wrong,
		{Addr: addr.Four(1, 2, 3, 4), Port: 65536 + 258},
		{Addr: addr.Four(1, 2, 3, 4), Port: -1},
		{Addr: addr.Four(1, 2, 3, 4), Port: -65536},
		{Addr: six(3), Port: math.MaxInt},
		{Addr: six(3), Port: math.MinInt},
	}
}

// P7.1: a byte for the protocol, and both points, the source first.
func TestP7_1_Tuple(t *testing.T) {
	four, sixteen := api.Point{Addr: addr.Four(10, 0, 0, 1), Port: 258}, api.Point{Addr: six(1), Port: 80}
	for _, x := range []struct {
		proto    int
		src, dst api.Point
		want     []byte
	}{
		{api.TCP, four, four, []byte{6, 4, 10, 0, 0, 1, 1, 2, 4, 10, 0, 0, 1, 1, 2}},
		{api.UDP, four, api.Point{}, []byte{17, 4, 10, 0, 0, 1, 1, 2, 4, 0, 0, 0, 0, 0, 0}},
		{api.UDP, api.Point{}, four, []byte{17, 4, 0, 0, 0, 0, 0, 0, 4, 10, 0, 0, 1, 1, 2}},
		{0, sixteen, four, []byte{0, 6, 1, 2, 3, 4, 5, 6, 7, 8, 9, 10, 11, 12, 13, 14, 15, 16, 0, 80, 4, 10, 0, 0, 1, 1, 2}},
		{255, four, sixteen, []byte{255, 4, 10, 0, 0, 1, 1, 2, 6, 1, 2, 3, 4, 5, 6, 7, 8, 9, 10, 11, 12, 13, 14, 15, 16, 0, 80}},
	} {
		if got := hash.Tuple(x.proto, x.src, x.dst); !bytes.Equal(got, x.want) {
			t.Fatalf("%d, %v, %v: %v; want %v", x.proto, x.src, x.dst, got, x.want)
		}
	}
}

// P7.1: each point's bytes are layer 4's, be it a point or not.
func TestP7_1_TuplePoints(t *testing.T) {
	for _, src := range ends() {
		for _, dst := range ends() {
			got := hash.Tuple(api.TCP, src, dst)
			if want := slices.Concat([]byte{6}, laid(src), laid(dst)); !bytes.Equal(got, want) {
				t.Fatalf("%v, %v: %v; want %v", src, dst, got, want)
			}
			if want := slices.Concat([]byte{6}, ports.Put(src), ports.Put(dst)); !bytes.Equal(got, want) {
				t.Fatalf("%v, %v: %v; layer 4 puts %v", src, dst, got, want)
			}
		}
	}
}

// P7.1: the protocol counts modulo 256, below 0 too.
func TestP7_1_TupleProtocols(t *testing.T) {
	numbers := []int{math.MinInt, math.MinInt + 6, math.MaxInt, 1 << 31, 1<<32 + 17, -1 << 32, 1<<62 + 255}
	for n := -1000; n <= 1000; n++ {
		numbers = append(numbers, n)
	}
	p := api.Point{Addr: addr.Four(1, 2, 3, 4), Port: 80}
	for _, n := range numbers {
		want := (n%256 + 256) % 256
		got := hash.Tuple(n, p, p)
		if len(got) != 15 || int(got[0]) != want || !bytes.Equal(got[1:], []byte{4, 1, 2, 3, 4, 0, 80, 4, 1, 2, 3, 4, 0, 80}) {
			t.Fatalf("%d: %v; want %d ahead", n, got, want)
		}
	}
}

// P7.1: a tuple of points is read as it was put, and so no two have one.
func TestP7_1_TupleIsRead(t *testing.T) {
	chance := rand.New(rand.NewSource(75))
	point := func() api.Point {
		p := api.Point{Addr: api.Addr{Six: chance.Intn(2) > 0}, Port: 1 + chance.Intn(65535)}
		for i := range addr.Bytes(p.Addr) {
			p.Addr.B[i] = byte(chance.Int())
		}
		return p
	}
	for range 5000 {
		proto, src, dst := chance.Intn(256), point(), point()
		c := octets.At(hash.Tuple(proto, src, dst))
		if n, a, b := c.Num(1), ports.Read(c), ports.Read(c); c.End() != nil || n != proto || a != src || b != dst {
			t.Fatalf("%d, %v, %v is read as %d, %v, %v", proto, src, dst, n, a, b)
		}
	}
}
