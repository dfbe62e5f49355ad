package addr_test

import (
	"bytes"
	"errors"
	"math/rand"
	"testing"

	"linkboy/addr"
	"linkboy/api"
	"linkboy/octets"
)

// bad is an address that isn't right: of four bytes, with one behind them.
func bad(place int) api.Addr {
	a := addr.Four(1, 2, 3, 4)
	a.B[place] = 9
	return a
}

// count is an address of sixteen different bytes.
func count() api.Addr {
	b := [16]byte{}
	for i := range b {
		b[i] = byte(16 + i)
	}
	return api.Addr{Six: true, B: b}
}

func same(t *testing.T, got, want error) {
	t.Helper()
	if !errors.Is(got, want) {
		t.Fatalf("error %v; want %v", got, want)
	}
}

// P2.1: an address of four bytes has noughts behind them; one of sixteen is always right.
func TestP2_1_Right(t *testing.T) {
	for _, a := range []api.Addr{{}, addr.Four(0, 0, 0, 1), addr.Four(255, 255, 255, 255), {Six: true}, count()} {
		if !addr.Right(a) {
			t.Fatalf("%v is right", a)
		}
	}
	for place := 4; place < 16; place++ {
		a := bad(place)
		if addr.Right(a) {
			t.Fatalf("%v isn't right", a)
		}
		a.Six = true
		if !addr.Right(a) {
			t.Fatalf("%v is right", a)
		}
	}
}

// P2.1: Four and Six are the addresses of their bytes, in their order.
func TestP2_1_FourSix(t *testing.T) {
	if got, want := addr.Four(10, 1, 2, 3), (api.Addr{B: [16]byte{10, 1, 2, 3}}); got != want {
		t.Fatalf("%v; want %v", got, want)
	}
	if got := addr.Six(count().B); got != count() {
		t.Fatalf("%v; want %v", got, count())
	}
	if got, want := addr.Six([16]byte{}), (api.Addr{Six: true}); got != want {
		t.Fatalf("%v; want %v", got, want)
	}
}

// P2.1: Bytes, Put and Bits go by Six alone, be the address right or not.
func TestP2_1_BytesPutBits(t *testing.T) {
	whole := count()
	for _, x := range []struct {
		a    api.Addr
		want []byte
		put  byte
		bits int
	}{
		{addr.Four(1, 2, 3, 4), []byte{1, 2, 3, 4}, 4, 32},
		{api.Addr{}, []byte{0, 0, 0, 0}, 4, 32},
		{bad(4), []byte{1, 2, 3, 4}, 4, 32},
		{bad(15), []byte{1, 2, 3, 4}, 4, 32},
		{whole, whole.B[:], 6, 128},
		{api.Addr{Six: true}, make([]byte, 16), 6, 128},
	} {
		if got := addr.Bytes(x.a); !bytes.Equal(got, x.want) {
			t.Fatalf("bytes of %v: %v", x.a, got)
		}
		if got := addr.Put(x.a); !bytes.Equal(got, append([]byte{x.put}, x.want...)) {
			t.Fatalf("%v as it is put: %v", x.a, got)
		}
		if got := addr.Bits(x.a); got != x.bits {
			t.Fatalf("bits of %v: %d", x.a, got)
		}
	}
}

// P2.1: four or sixteen bytes are an address's, and no other number of them.
func TestP2_1_From(t *testing.T) {
	for n := range 40 {
		b := make([]byte, n)
		for i := range b {
			b[i] = byte(i + 1)
		}
		got, err := addr.From(b)
		want := api.Addr{}
		if n == 4 || n == 16 {
			same(t, err, nil)
			want.Six = n == 16
			copy(want.B[:], b)
		} else {
			same(t, err, api.ErrForm)
		}
		if got != want {
			t.Fatalf("the address of %d bytes: %v", n, got)
		}
	}
	if got, err := addr.From(nil); got != (api.Addr{}) || !errors.Is(err, api.ErrForm) {
		t.Fatal("no bytes are no address")
	}
}

// P2.1: those that aren't Six come first, then all sixteen bytes count, one behind the other, unsigned.
func TestP2_1_Compare(t *testing.T) {
	high := api.Addr{Six: true, B: [16]byte{255}}
	row := []api.Addr{
		{},
		{B: [16]byte{15: 1}},
		{B: [16]byte{4: 1}},
		{B: [16]byte{3: 1}},
		{B: [16]byte{3: 1, 15: 200}},
		addr.Four(1, 0, 0, 0),
		addr.Four(1, 0, 0, 255),
		addr.Four(127, 255, 255, 255),
		addr.Four(128, 0, 0, 0),
		addr.Four(255, 255, 255, 255),
		{B: [16]byte{255, 255, 255, 255, 255, 15: 1}},
		{Six: true},
		{Six: true, B: [16]byte{15: 1}},
		{Six: true, B: [16]byte{15: 255}},
		{Six: true, B: [16]byte{14: 1}},
		{Six: true, B: [16]byte{1, 2, 3, 4}},
		high,
	}
	for i, a := range row {
		for k, b := range row {
			want := 0
			if i < k {
				want = -1
			} else if i > k {
				want = 1
			}
			if got := addr.Compare(a, b); got != want {
				t.Fatalf("%v against %v: %d; want %d", a, b, got, want)
			}
		}
	}
}

// P2.1: what Put puts is read, and the place is behind it.
func TestP2_1_Read(t *testing.T) {
	for _, a := range []api.Addr{{}, addr.Four(1, 2, 3, 4), addr.Four(255, 0, 255, 0), {Six: true}, count()} {
		put := addr.Put(a)
		c := octets.At(append(append([]byte{7}, put...), put...))
		c.Num(1)
		for i := range 2 {
			if got := addr.Read(c); got != a {
				t.Fatalf("read %v; want %v", got, a)
			}
			if c.Place() != 1+(i+1)*len(put) {
				t.Fatalf("place %d", c.Place())
			}
		}
		same(t, c.End(), nil)
	}
}

// P2.1: what isn't right is read as the four bytes that were put of it.
func TestP2_1_ReadOfNotRight(t *testing.T) {
	c := octets.At(addr.Put(bad(7)))
	if got := addr.Read(c); got != addr.Four(1, 2, 3, 4) || c.End() != nil {
		t.Fatalf("read %v, %v", got, c.End())
	}
}

// P2.1: another first byte is ErrKind, behind that byte, whatever follows.
func TestP2_1_ReadKind(t *testing.T) {
	for mark := range 256 {
		if mark == 4 || mark == 6 {
			continue
		}
		for _, rest := range []int{0, 4, 16} {
			c := octets.At(append([]byte{byte(mark)}, make([]byte, rest)...))
			if got := addr.Read(c); got != (api.Addr{}) {
				t.Fatalf("read %v behind %d", got, mark)
			}
			same(t, c.Err(), api.ErrKind)
			if c.Place() != 1 || c.Left() != rest {
				t.Fatalf("place %d, left %d", c.Place(), c.Left())
			}
		}
	}
}

// P2.1: bytes that are missing are ErrShort, behind the parts that could be read.
func TestP2_1_ReadShort(t *testing.T) {
	for _, a := range []api.Addr{addr.Four(1, 2, 3, 4), count()} {
		put := addr.Put(a)
		for n := range put {
			c := octets.At(put[:n])
			if got := addr.Read(c); got != (api.Addr{}) {
				t.Fatalf("read %v of %v", got, put[:n])
			}
			same(t, c.Err(), api.ErrShort)
			if c.Place() != min(n, 1) {
				t.Fatalf("place %d of %v", c.Place(), put[:n])
			}
		}
	}
}

// P2.1: a cursor that remembers an error stays, and keeps that; no cursor, no address.
func TestP2_1_ReadBehindAnError(t *testing.T) {
	for _, b := range [][]byte{addr.Put(addr.Four(1, 2, 3, 4)), addr.Put(count()), {9}, {0}, {}} {
		c := octets.At(b)
		c.Fail(api.ErrSum)
		if got := addr.Read(c); got != (api.Addr{}) {
			t.Fatalf("read %v", got)
		}
		same(t, c.Err(), api.ErrSum)
		if c.Place() != 0 {
			t.Fatalf("place %d", c.Place())
		}
	}
	c := octets.At([]byte{9, 4, 1, 2, 3, 4})
	addr.Read(c)
	if got := addr.Read(c); got != (api.Addr{}) || c.Place() != 1 || !errors.Is(c.Err(), api.ErrKind) {
		t.Fatalf("read %v at %d, %v", got, c.Place(), c.Err())
	}
	if got := addr.Read(nil); got != (api.Addr{}) {
		t.Fatalf("read %v of no cursor", got)
	}
}

// P2.1: nothing that is given is changed, and what is answered is the caller's.
func TestP2_1_OwnMemory(t *testing.T) {
	for _, n := range []int{3, 4, 16} {
		room := bytes.Repeat([]byte{7}, 40)
		got, _ := addr.From(room[:n])
		if !bytes.Equal(room, bytes.Repeat([]byte{7}, 40)) {
			t.Fatal("the bytes, or the room behind them, were changed")
		}
		kept := got
		clear(room)
		if got != kept {
			t.Fatal("an address shares its bytes")
		}
	}
	for _, a := range []api.Addr{addr.Four(1, 2, 3, 4), count()} {
		for _, call := range []func(api.Addr) []byte{addr.Bytes, addr.Put} {
			first, second := call(a), call(a)
			kept := bytes.Clone(second)
			clear(first[:cap(first)])
			if !bytes.Equal(second, kept) || !bytes.Equal(call(a), kept) {
				t.Fatal("answers share their bytes")
			}
		}
	}
}

// P2.1: Bytes and From, Put and Read, undo each other for every right address.
func TestP2_1_BytesBack(t *testing.T) {
	chance := rand.New(rand.NewSource(2))
	for range 20000 {
		a := some(chance)
		if got, err := addr.From(addr.Bytes(a)); got != a || err != nil {
			t.Fatalf("%v of the bytes of %v, %v", got, a, err)
		}
		c := octets.At(addr.Put(a))
		if got := addr.Read(c); got != a || c.End() != nil {
			t.Fatalf("%v read of %v, %v", got, a, c.End())
		}
	}
}

// some is a right address with many noughts in it.
func some(chance *rand.Rand) api.Addr {
	a := api.Addr{Six: chance.Intn(3) > 0}
	for i := range addr.Bits(a) / 8 {
		if chance.Intn(3) > 0 {
			a.B[i] = byte(chance.Intn(256)) >> chance.Intn(8)
		}
	}
	return a
}
