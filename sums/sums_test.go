package sums_test

import (
	"bytes"
	"math"
	"math/big"
	"math/rand"
	"slices"
	"testing"

	"linkboy/addr"
	"linkboy/api"
	"linkboy/sums"
)

const top = 1 << 40 // the greatest sum that is added to

// some is bytes made by chance, of any small length; some lists are of noughts or of greatest bytes alone.
func some(chance *rand.Rand, most int) []byte {
	b := make([]byte, chance.Intn(most+1))
	switch chance.Intn(5) {
	case 0:
	case 1:
		for i := range b {
			b[i] = 255
		}
	default:
		chance.Read(b)
	}
	return b
}

// added is what Add must tell of bytes alone: those at even places count 256 times, the others once.
func added(b []byte) int {
	sum := 0
	for i := len(b) - 1; i >= 0; i-- {
		if i%2 == 0 {
			sum += 256 * int(b[i])
		} else {
			sum += int(b[i])
		}
	}
	return sum
}

// folded is what Fold must tell: what is left by 65535, but that only nought is folded to nought.
func folded(sum int) int {
	if sum <= 0 {
		return 0
	}
	return (sum-1)%65535 + 1
}

// rest is a number modulo another one, by another way than bits.
func rest(n, by int) int {
	return int(new(big.Int).Mod(big.NewInt(int64(n)), big.NewInt(int64(by))).Int64())
}

// changed is what Change must tell.
func changed(check, was, now int) int {
	return 65535 - folded(65535-rest(check, 65536)+65535-rest(was, 65536)+rest(now, 65536))
}

// edges is numbers of every kind, those beside every bound among them.
func edges() []int {
	list := []int{math.MinInt, math.MinInt + 1, math.MaxInt - 1, math.MaxInt}
	for _, n := range []int{0, 1, 255, 256, 257, 0x1234, 32767, 32768, 65534, 65535, 65536, 65537, 131070, 131071, 131072, 1 << 31, 1 << 32, 65535 * 65536, 65536*65536 - 1, top, 1 << 48, 1 << 62} {
		for _, near := range []int{n - 1, n, n + 1} {
			list = append(list, near, -near)
		}
	}
	return list
}

// P6.1: the chapter's example, step by step, as RFC 1071 has it.
func TestP6_1_Examples(t *testing.T) {
	b := []byte{0, 1, 0xf2, 3, 0xf4, 0xf5, 0xf6, 0xf7}
	if got := sums.Check(b); got != 0x220d {
		t.Fatalf("the checksum is %#x", got)
	}
	if got := sums.Add(0, b); got != 0x2ddf0 {
		t.Fatalf("the sum is %#x", got)
	}
	if got := sums.Fold(0x2ddf0); got != 0xddf2 {
		t.Fatalf("the folded sum is %#x", got)
	}
}

// P6.1: two bytes each are a number, the high one first, an odd last byte stands ahead of a nought, and nothing is folded.
func TestP6_1_Add(t *testing.T) {
	for _, x := range []struct {
		sum  int
		b    []byte
		want int
	}{
		{0, nil, 0},
		{0, []byte{}, 0},
		{7, nil, 7},
		{70000, []byte{}, 70000},
		{0, []byte{1, 2}, 0x102},
		{0, []byte{1}, 0x100},
		{0, []byte{255}, 0xff00},
		{0, []byte{0}, 0},
		{0, []byte{0, 255}, 255},
		{0, []byte{1, 2, 3}, 0x402},
		{0, []byte{1, 2, 3, 4}, 0x406},
		{5, []byte{1, 2, 3, 4, 5}, 0x90b},
		{0, []byte{255, 255, 255, 255}, 131070},
		{65535, []byte{0, 1}, 65536},
		{65535, []byte{255, 255, 255}, 65535 + 65535 + 65280},
		{1 << 20, []byte{0, 1}, 1<<20 + 1},
	} {
		if got := sums.Add(x.sum, x.b); got != x.want {
			t.Fatalf("%d and %v: %d; want %d", x.sum, x.b, got, x.want)
		}
	}
	for high := range 256 {
		for low := range 256 {
			if got := sums.Add(3, []byte{byte(high), byte(low)}); got != 3+256*high+low {
				t.Fatalf("%d, %d: %d", high, low, got)
			}
		}
	}
}

// P6.1: a sum below 0 counts as 0, and one above 2^40 as 2^40.
func TestP6_1_AddBounds(t *testing.T) {
	for _, b := range [][]byte{nil, {}, {0}, {1}, {0, 1}, {255, 255, 255}} {
		for _, sum := range edges() {
			want := sum + added(b)
			if sum < 0 {
				want = added(b)
			} else if sum > 1099511627776 {
				want = 1099511627776 + added(b)
			}
			if got := sums.Add(sum, b); got != want {
				t.Fatalf("%d and %v: %d; want %d", sum, b, got, want)
			}
		}
	}
}

// P6.1: a sum goes on in pieces, as long as each has whole numbers; long lists have their whole sum.
func TestP6_1_AddPieces(t *testing.T) {
	chance := rand.New(rand.NewSource(61))
	for range 20000 {
		b, sum := some(chance, 70), chance.Intn(1<<chance.Intn(41))
		if got := sums.Add(sum, b); got != sum+added(b) {
			t.Fatalf("%d and %v: %d; want %d", sum, b, got, sum+added(b))
		}
		cut := 2 * chance.Intn(len(b)/2+1)
		if got := sums.Add(sums.Add(sum, b[:cut]), b[cut:]); got != sum+added(b) {
			t.Fatalf("%d and %v in pieces: %d; want %d", sum, b, got, sum+added(b))
		}
	}
	long := bytes.Repeat([]byte{255}, 1<<20+1)
	if got, want := sums.Add(9, long), 9+65535*(1<<19)+65280; got != want {
		t.Fatalf("of a long list: %d; want %d", got, want)
	}
}

// P6.1: what is above 16 bits is added to the rest till there is nothing above; below 0 it is 0.
func TestP6_1_Fold(t *testing.T) {
	for sum, want := range map[int]int{
		0: 0, 1: 1, 65534: 65534, 65535: 65535, 65536: 1, 65537: 2, 131070: 65535, 131071: 1, 131072: 2, 0x12345: 0x2346,
		0xffff0000: 65535, 0xffff0001: 1, 0xffffffff: 65535, 1 << 32: 1, 1 << 40: 256, 1 << 48: 1, 1 << 62: 16384, 1<<62 - 1: 16383,
		math.MaxInt: 32767, math.MaxInt - 1: 32766, -1: 0, -65535: 0, -65536: 0, -65537: 0, math.MinInt: 0, math.MinInt + 1: 0,
	} {
		if got := sums.Fold(sum); got != want {
			t.Fatalf("%#x: %#x; want %#x", sum, got, want)
		}
	}
	for _, sum := range edges() {
		if got := sums.Fold(sum); got != folded(sum) {
			t.Fatalf("%d: %d; want %d", sum, got, folded(sum))
		}
	}
	for sum := range 400000 {
		if got := sums.Fold(sum); got != folded(sum) {
			t.Fatalf("%d: %d; want %d", sum, got, folded(sum))
		}
	}
	chance := rand.New(rand.NewSource(62))
	for range 100000 {
		sum := int(chance.Uint64() >> chance.Intn(64))
		if got := sums.Fold(sum); got != folded(sum) || sums.Fold(got) != got {
			t.Fatalf("%d: %d; want %d", sum, got, folded(sum))
		}
	}
}

// P6.1: 65535 less the folded sum; nothing and noughts are 65535.
func TestP6_1_Check(t *testing.T) {
	for want, lists := range map[int][][]byte{
		65535:           {nil, {}, {0}, {0, 0}, {0, 0, 0}, make([]byte, 40)},
		0:               {{255, 255}, {255, 255, 255, 255}, {255, 0, 0, 255}, {0, 255, 255}, {255, 254, 0, 1}},
		65534:           {{0, 1}, {255, 255, 0, 1}, {128, 0, 128, 0}},
		65535 - 0x100:   {{1}, {1, 0}, {0, 0, 1}},
		65535 - 0x402:   {{1, 2, 3}},
		65535 - 0xff00:  {{255}, {0, 0, 255}},
		65535 - 0xff01:  {{255, 0, 0, 1}, {0, 1, 255}},
		65535 - 1 - 256: {{255, 255, 255, 255, 1, 1}, {1, 1}},
	} {
		for _, b := range lists {
			if got := sums.Check(b); got != want {
				t.Fatalf("%v: %d; want %d", b, got, want)
			}
		}
	}
	// A head of four bytes' addresses, as told in many books.
	head := []byte{0x45, 0, 0, 0x73, 0, 0, 0x40, 0, 0x40, 0x11, 0, 0, 0xc0, 0xa8, 0, 1, 0xc0, 0xa8, 0, 0xc7}
	if got := sums.Check(head); got != 0xb861 {
		t.Fatalf("the head's checksum is %#x", got)
	}
	head[10], head[11] = 0xb8, 0x61
	if got := sums.Fold(sums.Add(0, head)); got != 65535 {
		t.Fatalf("the whole head's folded sum is %#x", got)
	}
}

// P6.1: checksums of bytes made by chance, and that bytes with their checksum in them come to 65535.
func TestP6_1_CheckByChance(t *testing.T) {
	chance := rand.New(rand.NewSource(63))
	for range 50000 {
		b := some(chance, 64)
		got := sums.Check(b)
		if want := 65535 - folded(added(b)); got != want {
			t.Fatalf("%v: %d; want %d", b, got, want)
		}
		if sums.Fold(sums.Add(got, b)) != 65535 {
			t.Fatalf("%v and %d don't come to 65535", b, got)
		}
	}
	if got := sums.Check(bytes.Repeat([]byte{255, 254}, 1<<19)); got != 65535-folded(65534<<19) {
		t.Fatalf("of a long list: %d", got)
	}
}

// P6.1: checksums tell the same, if they are the same modulo 65536, or are both noughts.
func TestP6_1_Same(t *testing.T) {
	for _, a := range edges() {
		for _, b := range edges() {
			x, y := rest(a, 65536), rest(b, 65536)
			want := x == y || x == 0 && y == 65535 || x == 65535 && y == 0
			if got := sums.Same(a, b); got != want {
				t.Fatalf("%d and %d: %v", a, b, got)
			}
		}
	}
	for a := range 65536 {
		if !sums.Same(a, a) || !sums.Same(a, a+65536) || !sums.Same(a-65536, a) || !sums.Same(a-3<<16, a+5<<16) {
			t.Fatalf("%d doesn't tell what it tells", a)
		}
		if is := a == 0 || a == 65535; sums.Same(a, 0) != is || sums.Same(0, a) != is || sums.Same(a, 65535) != is || sums.Same(65535, a) != is || sums.Same(a, -1) != is {
			t.Fatalf("%d against noughts", a)
		}
		if a != 65535 && sums.Same(a, a+1) || sums.Same(a, a^0x0100) || sums.Same(a, a^0x8001) {
			t.Fatalf("%d tells what others tell", a)
		}
	}
}

// P6.1: no call writes to its lists, or to the room behind them, and each says the same again.
func TestP6_1_Apart(t *testing.T) {
	for _, n := range []int{0, 1, 2, 3, 4, 7} {
		was, now := []byte{1, 2, 3, 4, 5, 6, 7, 8, 9}, []byte{11, 12, 13, 14, 15, 16, 17, 18, 19}
		first := []int{sums.Add(5, was[:n]), sums.Check(was[:n]), sums.Changed(77, was[:n], now[:n])}
		second := []int{sums.Add(5, was[:n]), sums.Check(was[:n]), sums.Changed(77, was[:n], now[:n])}
		if !slices.Equal(first, second) {
			t.Fatalf("%v, and then %v", first, second)
		}
		if !bytes.Equal(was, []byte{1, 2, 3, 4, 5, 6, 7, 8, 9}) || !bytes.Equal(now, []byte{11, 12, 13, 14, 15, 16, 17, 18, 19}) {
			t.Fatalf("now %v and %v", was, now)
		}
		if got := sums.Add(5, was[:n]); got != 5+added(was[:n:n]) {
			t.Fatalf("bytes behind the list count: %d", got)
		}
	}
	a, b := addr.Four(1, 2, 3, 4), addr.Four(5, 6, 7, 8)
	one, two := sums.Pseudo(a, b, api.TCP, 20), sums.Pseudo(a, b, api.TCP, 20)
	clear(one[:cap(one)])
	if !bytes.Equal(two, []byte{1, 2, 3, 4, 5, 6, 7, 8, 0, 6, 0, 20}) {
		t.Fatalf("the second answer is now %v", two)
	}
}
