package octets_test

import (
	"bytes"
	"errors"
	"math"
	"strings"
	"testing"

	"linkboy/api"
	"linkboy/octets"
)

const most62 = 1 << 62

// state holds what a cursor tells of itself against what it should.
func state(t *testing.T, c *octets.Cursor, place, left int, err error) {
	t.Helper()
	if c.Place() != place || c.Left() != left {
		t.Fatalf("place %d, left %d; want %d, %d", c.Place(), c.Left(), place, left)
	}
	same(t, c.Err(), err)
}

func same(t *testing.T, got, want error) {
	t.Helper()
	if !errors.Is(got, want) {
		t.Fatalf("error %v; want %v", got, want)
	}
}

// P1.1: a number of size bytes, the high one first.
func TestP1_1_ReadNum(t *testing.T) {
	for _, x := range []struct {
		b     string
		size  int
		want  int
		place int
		err   error
	}{
		{"\x01\x02", 2, 258, 2, nil},
		{"\x01\x02", 1, 1, 1, nil},
		{"\x00", 1, 0, 1, nil},
		{"\xff", 1, 255, 1, nil},
		{"\x01\x02\x03", 3, 0x010203, 3, nil},
		{"\x01\x02\x03\x04", 4, 0x01020304, 4, nil},
		{"\x01\x02\x03\x04\x05", 5, 0x0102030405, 5, nil},
		{"\x01\x02\x03\x04\x05\x06", 6, 0x010203040506, 6, nil},
		{"\xff\xff\xff\xff\xff\xff\xff", 7, 1<<56 - 1, 7, nil},
		{"\x3f\xff\xff\xff\xff\xff\xff\xff", 8, most62 - 1, 8, nil},
		{"\x40\x00\x00\x00\x00\x00\x00\x00", 8, most62, 8, nil},
		{"\x40\x00\x00\x00\x00\x00\x00\x01", 8, 0, 0, api.ErrRange},
		{"\x7f\xff\xff\xff\xff\xff\xff\xff", 8, 0, 0, api.ErrRange},
		{"\x80\x00\x00\x00\x00\x00\x00\x00", 8, 0, 0, api.ErrRange},
		{"\xff\xff\xff\xff\xff\xff\xff\xff", 8, 0, 0, api.ErrRange},
		{"\xff\xff\xff\xff\xff\xff\xff", 8, 0, 0, api.ErrShort},
		{"", 1, 0, 0, api.ErrShort},
		{"\x01", 2, 0, 0, api.ErrShort},
		{"\x01", 0, 0, 0, api.ErrRange},
		{"", 0, 0, 0, api.ErrRange},
		{"\x01", -1, 0, 0, api.ErrRange},
		{"123456789", 9, 0, 0, api.ErrRange},
		{"", 9, 0, 0, api.ErrRange},
		{"1", math.MaxInt, 0, 0, api.ErrRange},
		{"1", math.MinInt, 0, 0, api.ErrRange},
	} {
		c := octets.At([]byte(x.b))
		if got := c.Num(x.size); got != x.want {
			t.Fatalf("Num(%d) of %q: %d; want %d", x.size, x.b, got, x.want)
		}
		state(t, c, x.place, len(x.b)-x.place, x.err)
	}
}

// P1.1: so many bytes.
func TestP1_1_ReadBytes(t *testing.T) {
	for _, x := range []struct {
		b    string
		n    int
		want string
		err  error
	}{
		{"abc", 2, "ab", nil},
		{"abc", 3, "abc", nil},
		{"abc", 0, "", nil},
		{"", 0, "", nil},
		{"abc", 4, "", api.ErrShort},
		{"", 1, "", api.ErrShort},
		{"abc", math.MaxInt, "", api.ErrShort},
		{"abc", -1, "", api.ErrRange},
		{"", -1, "", api.ErrRange},
		{"abc", math.MinInt, "", api.ErrRange},
	} {
		c := octets.At([]byte(x.b))
		if got := c.Bytes(x.n); string(got) != x.want {
			t.Fatalf("Bytes(%d) of %q: %q; want %q", x.n, x.b, got, x.want)
		}
		state(t, c, len(x.want), len(x.b)-len(x.want), x.err)
	}
}

// P1.1: all that is left is bounded by the place, not by the whole.
func TestP1_1_ReadBehindThePlace(t *testing.T) {
	c := octets.At([]byte("abcd"))
	c.Bytes(2)
	if c.Bytes(math.MaxInt) != nil {
		t.Fatal("more bytes than are left")
	}
	state(t, c, 2, 2, api.ErrShort)
	c = octets.At([]byte("abcd"))
	c.Bytes(2)
	if c.Num(3) != 0 {
		t.Fatal("a number that is longer than what is left")
	}
	state(t, c, 2, 2, api.ErrShort)
}

// P1.1: a text behind its length; whatever is wrong with it, the place stays ahead of the length.
func TestP1_1_ReadText(t *testing.T) {
	long := strings.Repeat("x", 255)
	for _, x := range []struct {
		b     string
		most  int
		want  string
		place int
		err   error
	}{
		{"\x02ab", 2, "ab", 3, nil},
		{"\x02abc", 15, "ab", 3, nil},
		{"\x00", 0, "", 1, nil},
		{"\x00ab", 5, "", 1, nil},
		{"\x02\xff\x00", 2, "\xff\x00", 3, nil},
		{"\xff" + long, 255, long, 256, nil},
		{"\xff" + long, math.MaxInt, long, 256, nil},
		{"\xff" + long, 254, "", 0, api.ErrLong},
		{"", 5, "", 0, api.ErrShort},
		{"", -1, "", 0, api.ErrShort},
		{"\x03abc", 2, "", 0, api.ErrLong},
		{"\x03", 2, "", 0, api.ErrLong},
		{"\x00", -1, "", 0, api.ErrLong},
		{"\x00", math.MinInt, "", 0, api.ErrLong},
		{"\x03ab", 3, "", 0, api.ErrShort},
		{"\x01", 1, "", 0, api.ErrShort},
	} {
		c := octets.At([]byte(x.b))
		if got := c.Text(x.most); got != x.want {
			t.Fatalf("Text(%d) of %q: %q; want %q", x.most, x.b, got, x.want)
		}
		state(t, c, x.place, len(x.b)-x.place, x.err)
	}
}

// P1.1: a flag is a byte 0 or 1, and no other one.
func TestP1_1_ReadFlag(t *testing.T) {
	for n := range 256 {
		c := octets.At([]byte{byte(n), 7})
		if c.Flag() != (n == 1) {
			t.Fatalf("the flag of %d", n)
		}
		if n < 2 {
			state(t, c, 1, 1, nil)
		} else {
			state(t, c, 0, 2, api.ErrForm)
		}
	}
	c := octets.At(nil)
	if c.Flag() {
		t.Fatal("a flag of nothing")
	}
	state(t, c, 0, 0, api.ErrShort)
}

// P1.1: the first failure is remembered; all reads behind it are zero, and stay.
func TestP1_1_FirstErrorStays(t *testing.T) {
	own := errors.New("own")
	fails := map[string]struct {
		do  func(c *octets.Cursor)
		err error
	}{
		"num's size":    {func(c *octets.Cursor) { c.Num(0) }, api.ErrRange},
		"num short":     {func(c *octets.Cursor) { c.Num(8) }, api.ErrShort},
		"bytes below 0": {func(c *octets.Cursor) { c.Bytes(-1) }, api.ErrRange},
		"bytes short":   {func(c *octets.Cursor) { c.Bytes(9) }, api.ErrShort},
		"text long":     {func(c *octets.Cursor) { c.Text(0) }, api.ErrLong},
		"text short":    {func(c *octets.Cursor) { c.Text(255) }, api.ErrShort},
		"flag's form":   {func(c *octets.Cursor) { c.Flag() }, api.ErrForm},
		"fail":          {func(c *octets.Cursor) { c.Fail(own) }, own},
	}
	for name, x := range fails {
		c := octets.At([]byte{1, 9, 1, 1, 1})
		c.Flag()
		x.do(c)
		for again, y := range fails {
			y.do(c)
			if c.Num(1) != 0 || len(c.Bytes(1)) != 0 || len(c.Bytes(0)) != 0 || c.Text(255) != "" || c.Flag() {
				t.Fatalf("something was read behind %s and %s", name, again)
			}
			state(t, c, 1, 4, x.err)
			same(t, c.End(), x.err)
		}
	}
}

// P1.1: Fail remembers an error, if none is; nil is none.
func TestP1_1_Fail(t *testing.T) {
	c := octets.At([]byte{1, 2})
	c.Fail(nil)
	state(t, c, 0, 2, nil)
	if c.Num(1) != 1 {
		t.Fatal("nil was remembered")
	}
	c.Fail(api.ErrName)
	c.Fail(api.ErrKind)
	c.Fail(nil)
	state(t, c, 1, 1, api.ErrName)
	same(t, c.End(), api.ErrName)
}

// P1.1: bytes that are left at the end are ErrLong, which isn't remembered.
func TestP1_1_End(t *testing.T) {
	c := octets.At([]byte{1, 2})
	same(t, c.End(), api.ErrLong)
	state(t, c, 0, 2, nil)
	if c.Num(2) != 258 {
		t.Fatal("End is no failure of a read")
	}
	same(t, c.End(), nil)
	c.Num(1)
	same(t, c.End(), api.ErrShort)
	same(t, octets.At(nil).End(), nil)
	same(t, octets.At([]byte{}).End(), nil)
}

// P1.1: Num's bytes, and numbers and sizes that are none.
func TestP1_1_WriteNum(t *testing.T) {
	for _, x := range []struct {
		n, size int
		want    string
		err     error
	}{
		{258, 2, "\x01\x02", nil},
		{258, 4, "\x00\x00\x01\x02", nil},
		{0, 1, "\x00", nil},
		{0, 8, "\x00\x00\x00\x00\x00\x00\x00\x00", nil},
		{255, 1, "\xff", nil},
		{65535, 2, "\xff\xff", nil},
		{1<<56 - 1, 7, "\xff\xff\xff\xff\xff\xff\xff", nil},
		{most62, 8, "\x40\x00\x00\x00\x00\x00\x00\x00", nil},
		{most62 + 1, 8, "", api.ErrRange},
		{math.MaxInt, 8, "", api.ErrRange},
		{most62, 7, "", api.ErrRange},
		{1 << 56, 7, "", api.ErrRange},
		{256, 1, "", api.ErrRange},
		{65536, 2, "", api.ErrRange},
		{-1, 1, "", api.ErrRange},
		{-1, 8, "", api.ErrRange},
		{math.MinInt, 8, "", api.ErrRange},
		{0, 0, "", api.ErrRange},
		{1, -1, "", api.ErrRange},
		{1, 9, "", api.ErrRange},
		{0, math.MaxInt, "", api.ErrRange},
		{0, math.MinInt, "", api.ErrRange},
	} {
		b, err := octets.Num(x.n, x.size)
		if string(b) != x.want {
			t.Fatalf("Num(%d, %d): %q; want %q", x.n, x.size, b, x.want)
		}
		same(t, err, x.err)
	}
}

// P1.1: a text's bytes, up to 255 of them; a flag's byte.
func TestP1_1_WriteTextAndFlag(t *testing.T) {
	for _, n := range []int{0, 1, 15, 127, 128, 254, 255} {
		s := strings.Repeat("y", n)
		b, err := octets.Text(s)
		same(t, err, nil)
		if string(b) != string([]byte{byte(n)})+s {
			t.Fatalf("a text of %d bytes: %q", n, b)
		}
	}
	for _, n := range []int{256, 257, 512, 70000} {
		b, err := octets.Text(strings.Repeat("y", n))
		same(t, err, api.ErrLong)
		if len(b) != 0 {
			t.Fatalf("a text of %d bytes: %q", n, b)
		}
	}
	if string(octets.Flag(true)) != "\x01" || string(octets.Flag(false)) != "\x00" {
		t.Fatal("a flag's byte")
	}
}

// P1.1: a cursor is over a copy, and what is answered is the caller's.
func TestP1_1_Apart(t *testing.T) {
	room := []byte("abcdefgh")
	given := room[2:6]
	c := octets.At(given)
	copy(room, "--------")
	twin := *c
	first := c.Bytes(2)
	if string(first) != "cd" {
		t.Fatalf("the cursor shares what it was given: %q", first)
	}
	empty := c.Bytes(0)
	copy(first[:cap(first)], bytes.Repeat([]byte{'!'}, cap(first)))
	_ = append(first[:0], "!!!!!!"...)
	_ = append(empty, "!!"...)
	second := c.Bytes(2)
	if string(second) != "ef" || string(twin.Bytes(4)) != "cdef" {
		t.Fatalf("writing over an answer changed a read: %q", second)
	}
	copy(first[:cap(first)], bytes.Repeat([]byte{'?'}, cap(first)))
	if string(second) != "ef" || string(room) != "--------" {
		t.Fatal("an answer shares memory")
	}
	before := octets.Flag(true)
	before[0] = 9
	if octets.Flag(true)[0] != 1 {
		t.Fatal("a flag's byte is shared")
	}
}

// P1.1: nothing that is answered, nor a read, writes to what At was given, or behind it.
func TestP1_1_GivenIsUnchanged(t *testing.T) {
	room := []byte("\x02ab\x01rest")
	given := room[:4]
	c := octets.At(given)
	if c.Text(2) != "ab" || !c.Flag() || c.Left() != 0 || c.Num(1) != 0 {
		t.Fatal("a read")
	}
	same(t, c.Err(), api.ErrShort)
	_ = append(octets.At(given[:2]).Bytes(2), "!!!!"...)
	_ = append(octets.At(given[:0]).Bytes(0), "!!!!"...)
	if string(room) != "\x02ab\x01rest" {
		t.Fatalf("what was given was changed: %q", room)
	}
}

// P1.2: numbers are read as they were written, in each size that has room for them.
func TestP1_2_Numbers(t *testing.T) {
	for bits := 0; bits <= 62; bits++ {
		for _, n := range []int{1<<bits - 1, 1 << bits, 1<<bits + 1, 1<<bits | 0x5a} {
			for size := 1; size <= 8; size++ {
				b, err := octets.Num(n, size)
				if n > most62 || size < 8 && n >= 1<<(8*size) {
					same(t, err, api.ErrRange)
					continue
				}
				same(t, err, nil)
				c := octets.At(b)
				if len(b) != size || c.Num(size) != n {
					t.Fatalf("%d in %d bytes: %v", n, size, b)
				}
				same(t, c.End(), nil)
			}
		}
	}
}

// P1.2: texts of each length, and flags, are read as they were written.
func TestP1_2_TextsAndFlags(t *testing.T) {
	for n := range 256 {
		s := ""
		for i := range n {
			s += string([]byte{byte(n ^ i*7)})
		}
		b, err := octets.Text(s)
		same(t, err, nil)
		c := octets.At(append(append(octets.Flag(n%2 == 0), b...), octets.Flag(n%2 == 1)...))
		if c.Flag() != (n%2 == 0) || c.Text(n) != s || c.Flag() != (n%2 == 1) {
			t.Fatalf("a text of %d bytes", n)
		}
		same(t, c.End(), nil)
	}
}
