package sums_test

import (
	"bytes"
	"encoding/binary"
	"math"
	"math/rand"
	"testing"

	"linkboy/addr"
	"linkboy/api"
	"linkboy/sums"
)

// row is an address of sixteen bytes that rise from one on.
func row(first byte) api.Addr {
	b := [16]byte{}
	for i := range b {
		b[i] = first + byte(i)
	}
	return addr.Six(b)
}

// wrong is an address of four bytes that isn't right.
func wrong() api.Addr {
	a := addr.Four(9, 8, 7, 6)
	for i := 4; i < 16; i++ {
		a.B[i] = 200
	}
	return a
}

// ahead is what Pseudo must tell.
func ahead(src, dst api.Addr, proto, n int) []byte {
	var b []byte
	for _, a := range []api.Addr{src, dst} {
		if a.Six {
			b = append(b, a.B[:]...)
		} else {
			b = append(b, a.B[:4]...)
		}
	}
	if src.Six {
		b = binary.BigEndian.AppendUint32(b, uint32(rest(n, 1<<32)))
		return append(b, 0, 0, 0, byte(rest(proto, 256)))
	}
	b = append(b, 0, byte(rest(proto, 256)))
	return binary.BigEndian.AppendUint16(b, uint16(rest(n, 1<<16)))
}

// P6.1: of addresses of four bytes, of sixteen, and of both, by the source.
func TestP6_1_Pseudo(t *testing.T) {
	four, other := addr.Four(10, 0, 0, 1), addr.Four(10, 1, 2, 3)
	six := "\x10\x11\x12\x13\x14\x15\x16\x17\x18\x19\x1a\x1b\x1c\x1d\x1e\x1f"
	far := "\xa0\xa1\xa2\xa3\xa4\xa5\xa6\xa7\xa8\xa9\xaa\xab\xac\xad\xae\xaf"
	for _, x := range []struct {
		src, dst api.Addr
		proto, n int
		want     string
	}{
		{four, other, api.TCP, 0x1234, "\x0a\x00\x00\x01\x0a\x01\x02\x03\x00\x06\x12\x34"},
		{other, four, api.UDP, 8, "\x0a\x01\x02\x03\x0a\x00\x00\x01\x00\x11\x00\x08"},
		{api.Addr{}, api.Addr{}, 0, 0, "\x00\x00\x00\x00\x00\x00\x00\x00\x00\x00\x00\x00"},
		{wrong(), four, 6, 1, "\x09\x08\x07\x06\x0a\x00\x00\x01\x00\x06\x00\x01"},
		{row(16), row(160), api.UDP, 0x12345678, six + far + "\x12\x34\x56\x78\x00\x00\x00\x11"},
		{row(160), row(16), api.TCP, 20, far + six + "\x00\x00\x00\x14\x00\x00\x00\x06"},
		{four, row(16), api.TCP, 0x12345, "\x0a\x00\x00\x01" + six + "\x00\x06\x23\x45"},
		{row(16), four, api.TCP, 0x12345, six + "\x0a\x00\x00\x01" + "\x00\x01\x23\x45\x00\x00\x00\x06"},
		{row(16), wrong(), api.TCP, 1, six + "\x09\x08\x07\x06" + "\x00\x00\x00\x01\x00\x00\x00\x06"},
	} {
		if got := sums.Pseudo(x.src, x.dst, x.proto, x.n); string(got) != x.want {
			t.Fatalf("%v, %v, %d, %d: %x; want %x", x.src, x.dst, x.proto, x.n, got, x.want)
		}
	}
}

// P6.1: the protocol modulo 256, n modulo 2^16 or 2^32, below 0 too.
func TestP6_1_PseudoModulo(t *testing.T) {
	for _, x := range []struct {
		proto, n int
		four     string
		six      string
	}{
		{-1, -1, "\x00\xff\xff\xff", "\xff\xff\xff\xff\x00\x00\x00\xff"},
		{256, 1 << 16, "\x00\x00\x00\x00", "\x00\x01\x00\x00\x00\x00\x00\x00"},
		{257, 1<<16 + 1, "\x00\x01\x00\x01", "\x00\x01\x00\x01\x00\x00\x00\x01"},
		{262, 1 << 32, "\x00\x06\x00\x00", "\x00\x00\x00\x00\x00\x00\x00\x06"},
		{-250, 1<<32 + 5, "\x00\x06\x00\x05", "\x00\x00\x00\x05\x00\x00\x00\x06"},
		{255, 65535, "\x00\xff\xff\xff", "\x00\x00\xff\xff\x00\x00\x00\xff"},
		{-256, -65536, "\x00\x00\x00\x00", "\xff\xff\x00\x00\x00\x00\x00\x00"},
		{math.MaxInt, math.MaxInt, "\x00\xff\xff\xff", "\xff\xff\xff\xff\x00\x00\x00\xff"},
		{math.MinInt, math.MinInt, "\x00\x00\x00\x00", "\x00\x00\x00\x00\x00\x00\x00\x00"},
	} {
		if got := sums.Pseudo(addr.Four(1, 2, 3, 4), addr.Four(5, 6, 7, 8), x.proto, x.n); string(got[8:]) != x.four {
			t.Fatalf("%d, %d: %x; want %x", x.proto, x.n, got[8:], x.four)
		}
		if got := sums.Pseudo(row(1), row(33), x.proto, x.n); string(got[32:]) != x.six {
			t.Fatalf("%d, %d: %x; want %x", x.proto, x.n, got[32:], x.six)
		}
	}
}

// P6.1: all pairs of addresses with numbers beside every bound.
func TestP6_1_PseudoEdges(t *testing.T) {
	chance := rand.New(rand.NewSource(64))
	list := []api.Addr{{}, addr.Four(255, 254, 253, 252), wrong(), {Six: true}, row(1), row(240)}
	for _, src := range list {
		for _, dst := range list {
			for _, n := range edges() {
				for _, proto := range []int{n, 6, chance.Int(), -chance.Int()} {
					if got, want := sums.Pseudo(src, dst, proto, n), ahead(src, dst, proto, n); !bytes.Equal(got, want) {
						t.Fatalf("%v, %v, %d, %d: %x; want %x", src, dst, proto, n, got, want)
					}
				}
			}
		}
	}
}

// P6.1: a whole UDP part's sum, with the pseudo bytes ahead of it, of four bytes' addresses and of sixteen.
func TestP6_1_PseudoSum(t *testing.T) {
	// From port 1000 to port 2000, ten bytes, "hi".
	part := []byte{0x03, 0xe8, 0x07, 0xd0, 0, 10, 0, 0, 'h', 'i'}
	for _, x := range []struct {
		src, dst api.Addr
		want     int
	}{
		// 0a00 + 0001 + 0a00 + 0002 + 0011 + 000a are 141e; the part's 03e8 + 07d0 + 000a + 6869 are 742b; together 8849.
		{addr.Four(10, 0, 0, 1), addr.Four(10, 0, 0, 2), 0xffff - 0x8849},
		// 2001 + 0db8 + 0001, once more with 0002, and 000a + 0011 are 5b90; with the part's 742b they are cfbb.
		{addr.Six([16]byte{0x20, 1, 0x0d, 0xb8, 15: 1}), addr.Six([16]byte{0x20, 1, 0x0d, 0xb8, 15: 2}), 0xffff - 0xcfbb},
	} {
		whole := append(sums.Pseudo(x.src, x.dst, api.UDP, len(part)), part...)
		check := sums.Check(whole)
		if check != x.want {
			t.Fatalf("%v: %#x; want %#x", x.src, check, x.want)
		}
		filled := append([]byte{}, part...)
		filled[6], filled[7] = byte(check>>8), byte(check)
		sum := sums.Add(0, sums.Pseudo(x.src, x.dst, api.UDP, len(part)))
		if got := sums.Fold(sums.Add(sum, filled)); got != 65535 {
			t.Fatalf("%v: with its checksum %#x", x.src, got)
		}
	}
}
