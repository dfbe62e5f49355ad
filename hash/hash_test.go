package hash_test

import (
	"bytes"
	"hash/fnv"
	"math"
	"math/big"
	"math/rand"
	"slices"
	"testing"

	"linkboy/addr"
	"linkboy/api"
	"linkboy/hash"
)

// big64 is a number of 64 bits without any bound.
func big64(n uint64) *big.Int { return new(big.Int).SetUint64(n) }

// times is two numbers' product modulo 2^64, by another way than wrapping round.
func times(n, by *big.Int) *big.Int {
	n = new(big.Int).Mul(n, by)
	return n.Mod(n, new(big.Int).Lsh(big.NewInt(1), 64))
}

// shifted is a number xor that number shifted right by 33, by another way than bits.
func shifted(n *big.Int) *big.Int {
	return new(big.Int).Xor(n, new(big.Int).Div(n, big.NewInt(1<<33)))
}

// plain is what Plain must tell.
func plain(b []byte) uint64 {
	n := big64(14695981039346656037)
	for _, x := range b {
		n = times(n.Xor(n, big.NewInt(int64(x))), big.NewInt(1099511628211))
	}
	return n.Uint64()
}

// mixed is what Mix must tell.
func mixed(h uint64) uint64 {
	n := shifted(times(shifted(big64(h)), big64(0xff51afd7ed558ccd)))
	return shifted(times(n, big64(0xc4ceb9fe1a85ec53))).Uint64()
}

// seeded is a seed's eight bytes, the high one first, and bytes behind them.
func seeded(seed uint64, b []byte) []byte {
	head := make([]byte, 8)
	big64(seed).FillBytes(head)
	return append(head, b...)
}

// some is bytes made by chance, of any small length; some lists are of noughts or of greatest bytes alone.
func some(chance *rand.Rand, most int) []byte {
	b := make([]byte, chance.Intn(most+1))
	switch chance.Intn(5) {
	case 0:
	case 1:
		for i := range b {
			b[i] = 255
		}
	default:
		chance.Read(b)
	}
	return b
}

// edges is numbers of every kind, those beside every power of 2 among them.
func edges() []uint64 {
	list := []uint64{
		0x0123456789abcdef, 0xfedcba9876543210, 0x5555555555555555, 0xaaaaaaaaaaaaaaaa, 0xff51afd7ed558ccd, 0xc4ceb9fe1a85ec53,
		14695981039346656037, 1099511628211, 12345,
	}
	for bit := range 64 {
		for _, n := range []uint64{1<<bit - 1, 1 << bit, 1<<bit + 1} {
			list = append(list, n, ^n)
		}
	}
	slices.Sort(list)
	return slices.Compact(list)
}

// seq is the bytes 0 to n - 1.
func seq(n int) []byte {
	b := make([]byte, n)
	for i := range b {
		b[i] = byte(i)
	}
	return b
}

// P7.1: FNV-1a of known texts.
func TestP7_1_Plain(t *testing.T) {
	for text, want := range map[string]uint64{
		"":               14695981039346656037,
		"\x00":           0xaf63bd4c8601b7df,
		"\x00\x00":       0x08328807b4eb6fed,
		"a":              0xaf63dc4c8601ec8c,
		"b":              0xaf63df4c8601f1a5,
		"\xff":           0xaf64724c8602eb6e,
		"foobar":         0x85944171f73967e8,
		string(seq(256)): 0x4242dc5249c33625,
	} {
		if got := hash.Plain([]byte(text)); got != want {
			t.Fatalf("%q: %#x; want %#x", text, got, want)
		}
	}
	if got := hash.Plain(nil); got != 14695981039346656037 {
		t.Fatalf("no bytes: %d", got)
	}
}

// P7.1: FNV-1a of every two bytes, of bytes made by chance, and of long lists, as the library and as numbers without bounds tell it.
func TestP7_1_PlainByOtherWays(t *testing.T) {
	hold := func(b []byte) {
		t.Helper()
		library := fnv.New64a()
		library.Write(b)
		if got, want := hash.Plain(b), library.Sum64(); got != want {
			t.Fatalf("%x: %#x; want %#x", b, got, want)
		}
	}
	for n := range 65536 {
		hold([]byte{byte(n >> 8), byte(n)})
	}
	for n := range 300 {
		hold(seq(n))
		hold(make([]byte, n))
	}
	hold(bytes.Repeat([]byte{255, 0, 128}, 1<<18))
	chance := rand.New(rand.NewSource(71))
	for range 5000 {
		b := some(chance, 60)
		hold(b)
		if got, want := hash.Plain(b), plain(b); got != want {
			t.Fatalf("%x: %#x; want %#x", b, got, want)
		}
	}
}

// P7.1: the numbers mixed of known ones.
func TestP7_1_Mix(t *testing.T) {
	for h, want := range map[uint64]uint64{
		0:                  0,
		1:                  0xb456bcfc34c2cb2c,
		2:                  0x3abf2a20650683e7,
		255:                0x1200a2a61d248b28,
		12345:              0x17d2abfbf90baef9,
		1 << 32:            0xba3a9e160a5f1419,
		1 << 33:            0x6b80f8591e1145c3,
		1 << 63:            0x8f780810af31a493,
		math.MaxUint64:     0x64b5720b4b825f21,
		0x0123456789abcdef: 0x87cbfbfe89022cea,
	} {
		if got := hash.Mix(h); got != want {
			t.Fatalf("%#x: %#x; want %#x", h, got, want)
		}
	}
}

// P7.1: what is mixed of edges and of numbers made by chance, as numbers without bounds tell it.
func TestP7_1_MixByAnotherWay(t *testing.T) {
	list := edges()
	chance := rand.New(rand.NewSource(72))
	for range 20000 {
		list = append(list, chance.Uint64()>>chance.Intn(64))
	}
	for _, h := range list {
		if got, want := hash.Mix(h), mixed(h); got != want {
			t.Fatalf("%#x: %#x; want %#x", h, got, want)
		}
	}
}

// P7.1: the only number that mixed is h: known ones, and what is mixed of it without this package is h.
func TestP7_1_Unmix(t *testing.T) {
	for h, want := range map[uint64]uint64{
		0:                  0,
		1:                  0x50bf096683646df0,
		2:                  0x902b72ca9e626be3,
		1 << 63:            0x13731bf2d2984f1e,
		math.MaxUint64:     0x89a5850e63c5f8aa,
		0xb456bcfc34c2cb2c: 1,
		0x8f780810af31a493: 1 << 63,
		0x64b5720b4b825f21: math.MaxUint64,
	} {
		if got := hash.Unmix(h); got != want {
			t.Fatalf("%#x: %#x; want %#x", h, got, want)
		}
	}
	list := edges()
	chance := rand.New(rand.NewSource(73))
	for range 20000 {
		list = append(list, chance.Uint64()>>chance.Intn(64))
	}
	for _, h := range list {
		if got := mixed(hash.Unmix(h)); got != h {
			t.Fatalf("%#x is mixed %#x", h, got)
		}
		if got := hash.Unmix(mixed(h)); got != h {
			t.Fatalf("%#x is unmixed %#x", h, got)
		}
	}
}

// P7.1: the hash of known bytes by known seeds.
func TestP7_1_Of(t *testing.T) {
	for _, x := range []struct {
		seed uint64
		text string
		want uint64
	}{
		{0, "", 0x7bd3144f29c0cc9e},
		{1, "", 0x0d4ad0eb39c50357},
		{2, "", 0xf6034fee4c3ffc73},
		{1, "a", 0xffb4b44c79d31c34},
		{2, "a", 0x1828769b1cbe9a7e},
		{256, "a", 0x8c591af0ce54b6dd},
		{3, "foobar", 0xec0251707bd5d737},
		{1 << 63, "", 0x7c58ca505305a910},
		{math.MaxUint64, "a", 0xce0aa4266de91bb3},
	} {
		if got := hash.Of(x.seed, []byte(x.text)); got != x.want {
			t.Fatalf("%q by %d: %#x; want %#x", x.text, x.seed, got, x.want)
		}
	}
	if got := hash.Of(1, nil); got != 0x0d4ad0eb39c50357 {
		t.Fatalf("no bytes by 1: %#x", got)
	}
}

// P7.1: every bit of a seed counts where its byte stands, the high byte first, and the bytes stand behind it.
func TestP7_1_OfSeeds(t *testing.T) {
	chance := rand.New(rand.NewSource(74))
	for _, seed := range edges() {
		for _, b := range [][]byte{nil, {}, {0}, {255}, seq(8), some(chance, 20)} {
			if got, want := hash.Of(seed, b), mixed(plain(seeded(seed, b))); got != want {
				t.Fatalf("%x by %#x: %#x; want %#x", b, seed, got, want)
			}
		}
	}
	for range 10000 {
		seed, b := chance.Uint64()>>chance.Intn(64), some(chance, 40)
		want := mixed(plain(seeded(seed, b)))
		if got := hash.Of(seed, b); got != want {
			t.Fatalf("%x by %#x: %#x; want %#x", b, seed, got, want)
		}
		if got := hash.Mix(hash.Plain(seeded(seed, b))); got != want {
			t.Fatalf("%x by %#x, of the other calls: %#x; want %#x", b, seed, got, want)
		}
	}
}

// P7.1: h modulo n, also where h is more than an int holds; 0, if n is below 1.
func TestP7_1_Below(t *testing.T) {
	for _, x := range []struct {
		h    uint64
		n    int
		want int
	}{
		{0, 1, 0},
		{0, 7, 0},
		{6, 7, 6},
		{7, 7, 0},
		{8, 7, 1},
		{250, 251, 250},
		{251, 251, 0},
		{math.MaxUint64, 1, 0},
		{math.MaxUint64, 2, 1},
		{math.MaxUint64, 10, 5},
		{math.MaxUint64, 251, 68},
		{1 << 63, 3, 2},
		{1 << 63, 10, 8},
		{math.MaxInt64, math.MaxInt64, 0},
		{1 << 63, math.MaxInt64, 1},
		{math.MaxUint64, math.MaxInt64, 1},
		{math.MaxInt64 - 1, math.MaxInt64, math.MaxInt64 - 1},
		{5, 0, 0},
		{5, -1, 0},
		{5, -3, 0},
		{0, 0, 0},
		{math.MaxUint64, 0, 0},
		{math.MaxUint64, -7, 0},
		{math.MaxUint64, math.MinInt, 0},
		{12345, math.MinInt + 1, 0},
	} {
		if got := hash.Below(x.h, x.n); got != x.want {
			t.Fatalf("%d below %d: %d; want %d", x.h, x.n, got, x.want)
		}
	}
	numbers := []int{math.MinInt, -70000, math.MaxInt, math.MaxInt - 1, 1 << 31, 1 << 32, 1<<32 + 1, 1 << 62}
	for n := -300; n <= 300; n++ {
		numbers = append(numbers, n)
	}
	for _, h := range edges() {
		for _, n := range numbers {
			want := 0
			if n > 0 {
				want = int(new(big.Int).Mod(big64(h), big.NewInt(int64(n))).Int64())
			}
			if got := hash.Below(h, n); got != want {
				t.Fatalf("%d below %d: %d; want %d", h, n, got, want)
			}
		}
	}
}

// P7.1: no call writes to its list, or to the room behind it, or reads that, and each says the same again.
func TestP7_1_Apart(t *testing.T) {
	for n := range 9 {
		room := seq(9)
		first := []uint64{hash.Plain(room[:n]), hash.Of(5, room[:n])}
		second := []uint64{hash.Plain(room[:n]), hash.Of(5, room[:n])}
		if !slices.Equal(first, second) {
			t.Fatalf("%v, and then %v", first, second)
		}
		if !bytes.Equal(room, seq(9)) {
			t.Fatalf("now %v", room)
		}
		if want := []uint64{plain(seq(n)), mixed(plain(seeded(5, seq(n))))}; !slices.Equal(first, want) {
			t.Fatalf("bytes behind the list count: %v; want %v", first, want)
		}
	}
	p := api.Point{Addr: addr.Four(1, 2, 3, 4), Port: 80}
	one, two := hash.Tuple(api.TCP, p, p), hash.Tuple(api.TCP, p, p)
	clear(one[:cap(one)])
	if want := []byte{6, 4, 1, 2, 3, 4, 0, 80, 4, 1, 2, 3, 4, 0, 80}; !bytes.Equal(two, want) || !bytes.Equal(hash.Tuple(api.TCP, p, p), want) {
		t.Fatalf("the second answer is now %v", two)
	}
}
