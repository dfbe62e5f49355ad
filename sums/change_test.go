package sums_test

import (
	"math/rand"
	"slices"
	"testing"

	"linkboy/addr"
	"linkboy/api"
	"linkboy/sums"
)

// P6.1: 65535 less the folded sum of what the old checksum and the old number leave of 65535, and the new number.
func TestP6_1_Change(t *testing.T) {
	for _, x := range []struct{ check, was, now, want int }{
		{0xdd2f, 0x5555, 0x3285, 0x0000}, // RFC 1624's example
		{0, 0, 0, 0},
		{65535, 0, 0, 0}, // 0 + 65535 + 0: the other nought, which tells the same
		{65535, 0, 1, 65534},
		{65534, 1, 0, 0},
		{0, 65535, 65535, 0},
		{0, 0, 65535, 0},
		{0, 65535, 0, 0},
		{65535, 65535, 0, 65535}, // 0 + 0 + 0
		{65535, 0, 65535, 0},
		{65535, 65535, 65535, 0},
		{0x220d, 0xf203, 0xf204, 0x220c},
		{0x220d, 0xf203, 0xf203, 0x220d},
		{1, 5, 5, 1},
		{0, 1, 2, 65534},
		{0, 2, 1, 1},
	} {
		if got := sums.Change(x.check, x.was, x.now); got != x.want {
			t.Fatalf("%#x, of %#x now %#x: %#x; want %#x", x.check, x.was, x.now, got, x.want)
		}
	}
}

// P6.1: each number counts modulo 65536, below 0 too.
func TestP6_1_ChangeModulo(t *testing.T) {
	for _, check := range edges() {
		for _, was := range edges() {
			for _, now := range []int{0, 1, 0x8000, 65535, 65536, 65537, -1, -65535, -65536, 1 << 40, was, check} {
				if got := sums.Change(check, was, now); got != changed(check, was, now) {
					t.Fatalf("%d, of %d now %d: %d; want %d", check, was, now, got, changed(check, was, now))
				}
				if got := sums.Change(now, check, was); got != changed(now, check, was) {
					t.Fatalf("%d, of %d now %d: %d; want %d", now, check, was, got, changed(now, check, was))
				}
			}
		}
	}
	if sums.Change(-1, 65536, 1<<32) != 0 || sums.Change(-1, -1, 65536) != 65535 || sums.Change(1<<40+7, -65531, 5) != 7 {
		t.Fatal("numbers count otherwise than modulo 65536")
	}
}

// twos is the numbers of bytes.
func twos(b []byte) []int {
	var list []int
	for piece := range slices.Chunk(b, 2) {
		list = append(list, added(piece))
	}
	return list
}

// P6.1: Change for each two bytes, one behind the other; an odd last byte stands ahead of a nought.
func TestP6_1_Changed(t *testing.T) {
	for _, x := range []struct {
		check    int
		was, now []byte
		want     int
	}{
		{0x220d, []byte{0xf2, 3}, []byte{0xf2, 4}, 0x220c},
		{0x220d, []byte{0, 1, 0xf2, 3}, []byte{0, 2, 0xf2, 4}, 0x220b},
		{0x220d, []byte{0xf2}, []byte{0xf3}, 0x210d},
		{0x220d, []byte{0, 1, 0xf2}, []byte{0, 3, 0xf1}, 0x230b},
		{0, []byte{0, 0}, []byte{0, 0}, 0},
		{65535, []byte{0, 0}, []byte{0, 0}, 0},
		{65535, []byte{255, 255}, []byte{0, 0}, 65535},
		{0, []byte{255, 255, 255, 255}, []byte{0, 0, 0, 0}, 0},
		{65535, []byte{0, 0, 0, 0}, []byte{255, 255, 255, 255}, 0},
		{-1, []byte{0, 0}, []byte{0, 1}, 65534},
		{65536 + 9, []byte{0, 0}, []byte{0, 1}, 8},
	} {
		if got := sums.Changed(x.check, x.was, x.now); got != x.want {
			t.Fatalf("%#x, of %x now %x: %#x; want %#x", x.check, x.was, x.now, got, x.want)
		}
	}
}

// P6.1: it goes as far as both lists have numbers: what one has behind that doesn't count, and an odd last byte stands ahead of a nought in its own list.
func TestP6_1_ChangedUnlike(t *testing.T) {
	for _, x := range []struct {
		was, now []byte
		want     int
	}{
		{nil, nil, 0x5000},
		{[]byte{}, []byte{1, 2}, 0x5000},
		{[]byte{1, 2}, nil, 0x5000},
		{[]byte{1, 2}, []byte{1, 3, 9, 9}, 0x4fff},
		{[]byte{1, 2, 9, 9}, []byte{1, 3}, 0x4fff},
		{[]byte{1, 2, 9}, []byte{1, 3}, 0x4fff},
		{[]byte{1, 2}, []byte{1, 3, 9}, 0x4fff},
		{[]byte{1}, []byte{1, 5}, 0x4ffb},
		{[]byte{1, 5}, []byte{1}, 0x5005},
		{[]byte{1}, []byte{2, 5, 9, 9}, 0x4efb},
		{[]byte{1, 2, 1}, []byte{1, 3, 1, 5, 9}, 0x4ffa},
	} {
		if got := sums.Changed(0x5000, x.was, x.now); got != x.want {
			t.Fatalf("of %x now %x: %#x; want %#x", x.was, x.now, got, x.want)
		}
	}
}

// P6.1: lists made by chance, like and unlike in length, as Change tells of their numbers.
func TestP6_1_ChangedByChance(t *testing.T) {
	chance := rand.New(rand.NewSource(65))
	for range 50000 {
		was, now, check := some(chance, 12), some(chance, 12), chance.Intn(65536)
		olds, news, want := twos(was), twos(now), check
		for i := range min(len(olds), len(news)) {
			want = changed(want, olds[i], news[i])
		}
		if got := sums.Changed(check, was, now); got != want {
			t.Fatalf("%d, of %x now %x: %d; want %d", check, was, now, got, want)
		}
	}
}

// P6.2: every two bytes of a list made any others.
func TestP6_2_Change(t *testing.T) {
	for _, behind := range [][]byte{{}, {0, 0}, {255, 255}, {0x12, 0x34, 0x56}, {255, 254, 0, 1}} {
		for was := range 65536 {
			for _, now := range []int{0, 1, was, 65535 - was, 65535, 0x1234} {
				old := append([]byte{byte(was >> 8), byte(was)}, behind...)
				young := append([]byte{byte(now >> 8), byte(now)}, behind...)
				got, want := sums.Change(sums.Check(old), was, now), sums.Check(young)
				if !sums.Same(got, want) || got < 0 || got > 65535 {
					t.Fatalf("%x now %x: %#x; want %#x", old, young, got, want)
				}
			}
		}
	}
}

// P6.2: any piece of a list, from a whole number on, made another one; an odd one just at the end, for else a byte would stand in its number's place.
func TestP6_2_Changed(t *testing.T) {
	chance := rand.New(rand.NewSource(66))
	for range 100000 {
		b := some(chance, 40)
		from := 2 * chance.Intn(len(b)/2+1)
		to := len(b)
		if chance.Intn(2) == 0 {
			to = from + 2*chance.Intn((len(b)-from)/2+1)
		}
		whole := slices.Clone(b)
		copy(whole[from:to], append(some(chance, 40), make([]byte, 40)...))
		got, want := sums.Changed(sums.Check(b), b[from:to], whole[from:to]), sums.Check(whole)
		if !sums.Same(got, want) {
			t.Fatalf("%x now %x: %#x; want %#x", b, whole, got, want)
		}
		if back := sums.Changed(got, whole[from:to], b[from:to]); !sums.Same(back, sums.Check(b)) {
			t.Fatalf("%x, and back: %#x; want %#x", b, back, sums.Check(b))
		}
	}
}

// P6.2: both noughts are told apart by no one: a list that comes to noughts, and one that comes to 65535.
func TestP6_2_Noughts(t *testing.T) {
	for _, x := range []struct{ was, now []byte }{
		{[]byte{0, 0, 0, 0}, []byte{0, 0, 0, 0}},
		{[]byte{0, 0, 0, 1}, []byte{0, 0, 0, 0}},
		{[]byte{255, 255, 255, 255}, []byte{0, 0, 0, 0}},
		{[]byte{0, 0, 0, 0}, []byte{255, 255, 255, 255}},
		{[]byte{255, 255, 0, 0}, []byte{0, 0, 255, 255}},
		{[]byte{255, 254, 0, 1}, []byte{0, 0, 0, 0}},
		{[]byte{0, 0, 0, 0}, []byte{255, 254, 0, 1}},
	} {
		got, want := sums.Changed(sums.Check(x.was), x.was, x.now), sums.Check(x.now)
		if !sums.Same(got, want) {
			t.Fatalf("%x now %x: %#x; want %#x", x.was, x.now, got, want)
		}
	}
}

// P6.2: a part whose client gets another address and port: the checksum is changed by both.
func TestP6_2_OtherEnds(t *testing.T) {
	chance := rand.New(rand.NewSource(67))
	for range 20000 {
		part := append(some(chance, 40), make([]byte, 8)...)
		src, other, dst := addr.Four(10, 0, byte(chance.Int()), byte(chance.Int())), addr.Four(byte(chance.Int()), 1, 2, byte(chance.Int())), addr.Four(10, 9, 8, 7)
		if chance.Intn(2) == 0 {
			src, other, dst = row(byte(chance.Int())), row(byte(chance.Int())), row(3)
		}
		check := sums.Check(append(sums.Pseudo(src, dst, api.TCP, len(part)), part...))
		moved := slices.Clone(part)
		moved[0], moved[1] = byte(chance.Int()), byte(chance.Int())
		got := sums.Changed(sums.Changed(check, addr.Bytes(src), addr.Bytes(other)), part[:2], moved[:2])
		if want := sums.Check(append(sums.Pseudo(other, dst, api.TCP, len(part)), moved...)); !sums.Same(got, want) {
			t.Fatalf("%v now %v: %#x; want %#x", src, other, got, want)
		}
	}
}
