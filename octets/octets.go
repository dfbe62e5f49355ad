// Package octets is layer 1: see shared/doc/01-octets.md.
package octets

import "linkboy/api"

const (
	maxSize = 8       // bytes of a number
	maxNum  = 1 << 62 // the greatest number
	maxText = 255     // bytes of a text: one byte tells how many
)

// Cursor is bytes, and a place in them.
type Cursor struct {
	bytes []byte
	place int
	err   error
}

// At is a cursor over a copy of bytes.
func At(b []byte) *Cursor { return &Cursor{bytes: apart(b)} }

// Num reads a number of size bytes, the high one first.
func (c *Cursor) Num(size int) int {
	if size < 1 || size > maxSize {
		c.Fail(api.ErrRange)
	}
	n := uint64(0)
	for _, b := range c.ahead(size) {
		n = n<<8 | uint64(b)
	}
	if n > maxNum {
		c.Fail(api.ErrRange)
	}
	if c.err != nil {
		return 0
	}
	c.place += size
	return int(n)
}

// Bytes reads n bytes.
func (c *Cursor) Bytes(n int) []byte {
	piece := c.ahead(n)
	c.place += len(piece)
	return apart(piece)
}

// Text reads a text of at most so many bytes, behind a byte that tells how many.
func (c *Cursor) Text(most int) string {
	length := c.ahead(1)
	if c.err != nil {
		return ""
	}
	if int(length[0]) > most {
		c.Fail(api.ErrLong)
	}
	// The length and the text are one piece, so that a text that isn't whole leaves the place ahead of its length.
	whole := c.ahead(1 + int(length[0]))
	if c.err != nil {
		return ""
	}
	c.place += len(whole)
	return string(whole[1:])
}

// Flag reads whether something is so.
func (c *Cursor) Flag() bool {
	piece := c.ahead(1)
	if c.err != nil {
		return false
	}
	if piece[0] > 1 {
		c.Fail(api.ErrForm)
		return false
	}
	c.place++
	return piece[0] == 1
}

// Left is how many bytes are left.
func (c *Cursor) Left() int { return len(c.bytes) - c.place }

// Place is the place.
func (c *Cursor) Place() int { return c.place }

// Fail remembers an error, if none is remembered.
func (c *Cursor) Fail(err error) {
	if c.err == nil {
		c.err = err
	}
}

// Err is the error that is remembered.
func (c *Cursor) Err() error { return c.err }

// End is the error that is remembered, or that bytes are left.
func (c *Cursor) End() error {
	if c.err == nil && c.Left() > 0 {
		return api.ErrLong
	}
	return c.err
}

// ahead is the next n bytes where they lie, without going on; none, if an error is remembered.
// The piece ends its own room, so that whoever holds it can't get at the bytes that are still to be read.
func (c *Cursor) ahead(n int) []byte {
	if n < 0 {
		c.Fail(api.ErrRange)
	} else if n > c.Left() {
		c.Fail(api.ErrShort)
	}
	if c.err != nil {
		return nil
	}
	end := c.place + n
	return c.bytes[c.place:end:end]
}

// apart is a copy of bytes: a list without room leaves append nothing but new memory to write to.
func apart(b []byte) []byte { return append(b[:0:0], b...) }

// Num is a number's bytes, the high one first.
func Num(n, size int) ([]byte, error) {
	if size < 1 || size > maxSize || n < 0 || n > maxNum || n>>(8*size) != 0 {
		return nil, api.ErrRange
	}
	b := make([]byte, size)
	for i := range b {
		b[size-1-i] = byte(n >> (8 * i))
	}
	return b, nil
}

// Text is a text's bytes, behind a byte that tells how many.
func Text(s string) ([]byte, error) {
	if len(s) > maxText {
		return nil, api.ErrLong
	}
	return append([]byte{byte(len(s))}, s...), nil
}

// Flag is whether something is so, as a byte.
func Flag(is bool) []byte {
	if is {
		return []byte{1}
	}
	return []byte{0}
}
