package stride_test

import (
	"bytes"
	"errors"
	"math"
	"math/big"
	"math/rand"
	"slices"
	"testing"

	"linkboy/addr"
	"linkboy/api"
	"linkboy/hash"
	"linkboy/ports"
	"linkboy/stride"
)

// primes is all primes from 2 to 251, the sizes that a table may have.
func primes() []int {
	return []int{
		2, 3, 5, 7, 11, 13, 17, 19, 23, 29, 31, 37, 41, 43, 47, 53, 59, 61, 67, 71, 73, 79, 83, 89, 97, 101, 103,
		107, 109, 113, 127, 131, 137, 139, 149, 151, 157, 163, 167, 173, 179, 181, 191, 193, 197, 199, 211, 223, 227, 229, 233, 239, 241, 251,
	}
}

// beyond is numbers far from every place, whose low bits are those of small ones among them.
func beyond() []int {
	return []int{
		math.MinInt, math.MinInt + 1, math.MinInt + 7, -1 << 62, -1<<32 + 7, -1 << 31, -65536, -1000,
		1000, 10007, 65537, 1<<31 - 1, 1 << 31, 1<<32 + 7, 1 << 62, math.MaxInt - 7, math.MaxInt - 1, math.MaxInt,
	}
}

// sizes is every number beside the sizes that a table may have, and those themselves.
func sizes() []int {
	list := beyond()
	for n := -300; n <= 600; n++ {
		list = append(list, n)
	}
	return list
}

// isSize tells whether a table may have so many places.
func isSize(n int) bool { return slices.Contains(primes(), n) }

// seq is the bytes 0 to n - 1.
func seq(n int) []byte {
	b := make([]byte, n)
	for i := range b {
		b[i] = byte(i)
	}
	return b
}

// texts is texts of every kind: none, short and long ones, points as layer 4 puts them, and some by chance.
func texts() [][]byte {
	list := [][]byte{nil, {}, {0}, {0, 0}, []byte("a"), []byte("b"), []byte("foobar"), seq(256), bytes.Repeat([]byte{255}, 1000)}
	for port := 78; port < 83; port++ {
		list = append(list, ports.Put(api.Point{Addr: addr.Four(10, 0, 0, byte(port)), Port: port}))
	}
	chance := rand.New(rand.NewSource(91))
	for range 40 {
		b := make([]byte, chance.Intn(40))
		chance.Read(b)
		list = append(list, b)
	}
	return list
}

// left is what a number leaves, divided by a size, never below 0, without any bound.
func left(n *big.Int, size int) int {
	return int(new(big.Int).Mod(n, big.NewInt(int64(size))).Int64())
}

// placed is what Place must tell of a right stride: offset + j skip, modulo its size, without any bound.
func placed(s stride.Stride, j int) int {
	n := new(big.Int).Mul(big.NewInt(int64(j)), big.NewInt(int64(s.Skip)))
	return left(n.Add(n, big.NewInt(int64(s.Offset))), s.Size)
}

// walked is what All must tell of a right stride, by going on step by step.
func walked(s stride.Stride) []int {
	var list []int
	for place := s.Offset; len(list) < s.Size; {
		list = append(list, place)
		for range s.Skip {
			if place++; place == s.Size {
				place = 0
			}
		}
	}
	return list
}

// every is all right strides of the small sizes, and those of the great ones beside their ends and by chance.
func every() []stride.Stride {
	var list []stride.Stride
	chance := rand.New(rand.NewSource(92))
	for _, size := range primes() {
		for offset := range size {
			for skip := 1; skip < size; skip++ {
				end := (offset < 2 || offset > size-3) && (skip < 3 || skip > size-3)
				if size < 30 || end || chance.Intn(size*size) < 30 {
					list = append(list, stride.Stride{Size: size, Offset: offset, Skip: skip})
				}
			}
		}
	}
	return list
}

// wrong is strides of which just one number isn't right, and such of which more aren't.
func wrong() []stride.Stride {
	list := []stride.Stride{{}, {Size: 1}, {Size: 1, Skip: 1}, {Size: 2}, {Size: 2, Skip: 2}, {Size: 2, Offset: 2, Skip: 1}, {Size: 2, Skip: -1}}
	for _, size := range sizes() {
		if !isSize(size) {
			list = append(list, stride.Stride{Size: size, Offset: 0, Skip: 1}, stride.Stride{Size: size, Offset: 3, Skip: 2}, stride.Stride{Size: size, Offset: -1, Skip: -1})
		}
	}
	for _, size := range primes() {
		for _, n := range append(beyond(), -2, -1, -size, size, size+1, 2*size, 2*size+1) {
			list = append(list, stride.Stride{Size: size, Offset: n, Skip: 1}, stride.Stride{Size: size, Offset: 0, Skip: n}, stride.Stride{Size: size, Offset: n, Skip: n})
		}
		list = append(list, stride.Stride{Size: size, Offset: 0, Skip: 0}, stride.Stride{Size: size, Offset: size - 1, Skip: 0}, stride.Stride{Size: -size, Offset: 0, Skip: 1})
	}
	return list
}

// numbers is numbers of places of a table, those below 0 and beyond it too.
func numbers(size int) []int {
	list := beyond()
	for j := -2*size - 1; j <= 3*size; j++ {
		list = append(list, j)
	}
	return list
}

// P9.1: the strides of known texts.
func TestP9_1_Of(t *testing.T) {
	for _, x := range []struct {
		text         string
		size         int
		offset, skip int
	}{
		{"", 2, 1, 1}, {"", 3, 1, 2}, {"", 5, 4, 4}, {"", 7, 2, 2}, {"", 11, 0, 8}, {"", 241, 154, 68}, {"", 251, 26, 38},
		{"a", 2, 0, 1}, {"a", 3, 2, 1}, {"a", 5, 3, 3}, {"a", 7, 2, 5}, {"a", 11, 8, 1}, {"a", 241, 205, 191}, {"a", 251, 130, 91},
		{"\x00", 2, 0, 1}, {"\x00", 7, 3, 1}, {"\x00", 251, 69, 119}, {"\x00\x00", 7, 0, 2}, {"\x00\x00", 11, 5, 10}, {"\x00\x00", 251, 90, 140},
		{"foobar", 7, 3, 6}, {"foobar", 251, 179, 176}, {string(seq(256)), 11, 10, 10}, {string(seq(256)), 251, 124, 230},
		{"\x04\x0a\x00\x00\x01\x00\x50", 7, 2, 5}, {"\x04\x0a\x00\x00\x01\x00\x50", 251, 172, 131}, {"\x04\x0a\x00\x00\x02\x00\x50", 251, 94, 96},
	} {
		want := stride.Stride{Size: x.size, Offset: x.offset, Skip: x.skip}
		if got, err := stride.Of([]byte(x.text), x.size); err != nil || got != want {
			t.Fatalf("of %q in %d: %v, %v; want %v", x.text, x.size, got, err, want)
		}
	}
	if got, err := stride.Of(nil, 251); err != nil || got != (stride.Stride{Size: 251, Offset: 26, Skip: 38}) {
		t.Fatalf("of no bytes: %v, %v", got, err)
	}
}

// P9.1: of every kind of text in every size it is as its words tell it, of layer 7's hashes as numbers without bounds.
func TestP9_1_OfByItsWords(t *testing.T) {
	for _, b := range texts() {
		one, two := new(big.Int).SetUint64(hash.Of(1, b)), new(big.Int).SetUint64(hash.Of(2, b))
		for _, size := range primes() {
			want := stride.Stride{Size: size, Offset: left(one, size), Skip: left(two, size-1) + 1}
			if got, err := stride.Of(b, size); err != nil || got != want {
				t.Fatalf("of %x in %d: %v, %v; want %v", b, size, got, err, want)
			}
		}
	}
}

// P9.1: ErrRange of every size that isn't a prime from 2 to 251, and no stride.
func TestP9_1_OfSizes(t *testing.T) {
	for _, size := range sizes() {
		for _, text := range []string{"", "a", "foobar"} {
			got, err := stride.Of([]byte(text), size)
			if isSize(size) {
				if err != nil || got.Size != size {
					t.Fatalf("of %q in %d: %v, %v", text, size, got, err)
				}
			} else if got != (stride.Stride{}) || !errors.Is(err, api.ErrRange) {
				t.Fatalf("of %q in %d: %v, %v; want ErrRange", text, size, got, err)
			}
		}
	}
}

// P9.1: Of doesn't write to its text, or to the room behind it, or read that, and says the same again.
func TestP9_1_OfApart(t *testing.T) {
	for n := range 9 {
		room := seq(9)
		one, _ := stride.Of(room[:n], 251)
		two, _ := stride.Of(room[:n], 251)
		alone, _ := stride.Of(seq(n), 251)
		if one != two || one != alone || !bytes.Equal(room, seq(9)) {
			t.Fatalf("of %d bytes: %v, %v, %v; the room is %v", n, one, two, alone, room)
		}
	}
}

// P9.1: of every small size all offsets and skips in and beside their bounds are right or not.
func TestP9_1_Right(t *testing.T) {
	for size := -3; size <= 31; size++ {
		for offset := -3; offset <= size+3; offset++ {
			for skip := -3; skip <= size+3; skip++ {
				s := stride.Stride{Size: size, Offset: offset, Skip: skip}
				want := isSize(size) && 0 <= offset && offset <= size-1 && 1 <= skip && skip <= size-1
				if got := stride.Right(s); got != want {
					t.Fatalf("%v: %t; want %t", s, got, want)
				}
			}
		}
	}
	for _, size := range sizes() {
		if got := stride.Right(stride.Stride{Size: size, Offset: 0, Skip: 1}); got != isSize(size) {
			t.Fatalf("of size %d: %t", size, got)
		}
	}
	for _, s := range every() {
		if !stride.Right(s) {
			t.Fatalf("%v isn't right", s)
		}
	}
	for _, s := range wrong() {
		if stride.Right(s) {
			t.Fatalf("%v is right", s)
		}
	}
}

// P9.1: the chapter's example, and other known orders, those of the least sizes and from a place to the one below it among them.
func TestP9_1_All(t *testing.T) {
	for _, x := range []struct {
		of   stride.Stride
		want []int
	}{
		{stride.Stride{Size: 7, Offset: 3, Skip: 2}, []int{3, 5, 0, 2, 4, 6, 1}},
		{stride.Stride{Size: 7, Offset: 0, Skip: 1}, []int{0, 1, 2, 3, 4, 5, 6}},
		{stride.Stride{Size: 7, Offset: 6, Skip: 6}, []int{6, 5, 4, 3, 2, 1, 0}},
		{stride.Stride{Size: 7, Offset: 2, Skip: 5}, []int{2, 0, 5, 3, 1, 6, 4}},
		{stride.Stride{Size: 2, Offset: 0, Skip: 1}, []int{0, 1}},
		{stride.Stride{Size: 2, Offset: 1, Skip: 1}, []int{1, 0}},
		{stride.Stride{Size: 3, Offset: 1, Skip: 2}, []int{1, 0, 2}},
		{stride.Stride{Size: 5, Offset: 4, Skip: 3}, []int{4, 2, 0, 3, 1}},
	} {
		if got := x.of.All(); !slices.Equal(got, x.want) {
			t.Fatalf("%v: %v; want %v", x.of, got, x.want)
		}
	}
	for _, s := range every() {
		if got, want := s.All(), walked(s); !slices.Equal(got, want) {
			t.Fatalf("%v: %v; want %v", s, got, want)
		}
	}
	for _, s := range wrong() {
		if got := s.All(); len(got) != 0 {
			t.Fatalf("%v: %v; want none", s, got)
		}
	}
}

// P9.1: each list is the caller's: writing over it, and over the room behind it, changes none that is told later or was told before.
func TestP9_1_AllApart(t *testing.T) {
	s := stride.Stride{Size: 7, Offset: 3, Skip: 2}
	c := s.Cursor()
	one, two := s.All(), s.All()
	clear(one[:cap(one)])
	if want := []int{3, 5, 0, 2, 4, 6, 1}; !slices.Equal(two, want) || !slices.Equal(s.All(), want) || c.Next() != 3 || s.Place(1) != 5 || s.When(6) != 5 {
		t.Fatalf("a list was written over, and now: %v, %v", two, s.All())
	}
}

// P9.1: a place by every number beside its bounds, j modulo the size, below 0 too, and by the greatest and least ones.
func TestP9_1_Place(t *testing.T) {
	example := []int{3, 5, 0, 2, 4, 6, 1}
	for j := -70; j < 70; j++ {
		if got, want := (stride.Stride{Size: 7, Offset: 3, Skip: 2}).Place(j), example[(j+70)%7]; got != want {
			t.Fatalf("number %d: %d; want %d", j, got, want)
		}
	}
	for _, s := range every() {
		for _, j := range numbers(s.Size) {
			if got, want := s.Place(j), placed(s, j); got != want {
				t.Fatalf("%v, number %d: %d; want %d", s, j, got, want)
			}
		}
	}
	for _, s := range wrong() {
		for _, j := range []int{0, 1, 2, 7, -1, math.MaxInt, math.MinInt} {
			if got := s.Place(j); got != -1 {
				t.Fatalf("%v, number %d: %d; want -1", s, j, got)
			}
		}
	}
}

// P9.1: the number of each place, found by trying all; -1 of what is no place, even where its rest is one.
func TestP9_1_When(t *testing.T) {
	for place, want := range []int{2, 6, 3, 0, 4, 1, 5} {
		if got := (stride.Stride{Size: 7, Offset: 3, Skip: 2}).When(place); got != want {
			t.Fatalf("place %d: %d; want %d", place, got, want)
		}
	}
	for _, s := range every() {
		order := walked(s)
		for _, place := range numbers(s.Size) {
			if got, want := s.When(place), slices.Index(order, place); got != want {
				t.Fatalf("%v, place %d: %d; want %d", s, place, got, want)
			}
		}
	}
	for _, s := range wrong() {
		for _, place := range []int{0, 1, 2, 3, 7, 250, s.Offset, s.Size - 1, s.Size, -1, math.MaxInt, math.MinInt} {
			if got := s.When(place); got != -1 {
				t.Fatalf("%v, place %d: %d; want -1", s, place, got)
			}
		}
	}
}
