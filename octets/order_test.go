package octets_test

import (
	"errors"
	"testing"

	"linkboy/api"
	"linkboy/octets"
)

// model is a cursor told anew, by what is left of a string: the calls are held against it.
type model struct {
	rest string
	gone int
	err  error
}

// step is one call: on a cursor and on the model; each tells what came as a text.
type step struct {
	name string
	real func(c *octets.Cursor) string
	plan func(m *model) string
}

func (m *model) take(n int) string {
	s := m.rest[:n]
	m.rest, m.gone = m.rest[n:], m.gone+n
	return s
}

func numStep(name string, size int) step {
	return step{name, func(c *octets.Cursor) string {
		n, s := c.Num(size), ""
		for ; n > 0; n /= 2 {
			s += string(rune('0' + n%2))
		}
		return s
	}, func(m *model) string {
		switch {
		case m.err != nil:
			return ""
		case size < 1 || size > 8:
			m.err = api.ErrRange
			return ""
		case len(m.rest) < size:
			m.err = api.ErrShort
			return ""
		case size == 8 && m.rest[:8] > "\x40\x00\x00\x00\x00\x00\x00\x00":
			m.err = api.ErrRange
			return ""
		}
		b, s := m.take(size), ""
		for i := size - 1; i >= 0; i-- {
			for bit := range 8 {
				s += string(rune('0' + b[i]>>bit&1))
			}
		}
		for s != "" && s[len(s)-1] == '0' {
			s = s[:len(s)-1]
		}
		return s
	}}
}

func bytesStep(name string, n int) step {
	return step{name, func(c *octets.Cursor) string { return string(c.Bytes(n)) }, func(m *model) string {
		if m.err == nil && n < 0 {
			m.err = api.ErrRange
		}
		if m.err == nil && n > len(m.rest) {
			m.err = api.ErrShort
		}
		if m.err != nil {
			return ""
		}
		return m.take(n)
	}}
}

func textStep(name string, most int) step {
	return step{name, func(c *octets.Cursor) string { return c.Text(most) }, func(m *model) string {
		switch {
		case m.err != nil:
		case m.rest == "":
			m.err = api.ErrShort
		case int(m.rest[0]) > most:
			m.err = api.ErrLong
		case int(m.rest[0]) >= len(m.rest):
			m.err = api.ErrShort
		default:
			return m.take(int(m.take(1)[0]))
		}
		return ""
	}}
}

func flagStep() step {
	return step{"flag", func(c *octets.Cursor) string {
		if c.Flag() {
			return "yes"
		}
		return ""
	}, func(m *model) string {
		switch {
		case m.err != nil:
		case m.rest == "":
			m.err = api.ErrShort
		case m.rest[0] > 1:
			m.err = api.ErrForm
		case m.take(1) == "\x01":
			return "yes"
		}
		return ""
	}}
}

func failStep(name string, err error) step {
	return step{name, func(c *octets.Cursor) string { c.Fail(err); return "" }, func(m *model) string {
		if m.err == nil {
			m.err = err
		}
		return ""
	}}
}

func steps() []step {
	return []step{
		numStep("num 1", 1), numStep("num 2", 2), numStep("num 8", 8), numStep("num 0", 0), numStep("num 9", 9),
		bytesStep("bytes 0", 0), bytesStep("bytes 1", 1), bytesStep("bytes 3", 3), bytesStep("bytes -1", -1),
		textStep("text 0", 0), textStep("text 2", 2), textStep("text 255", 255), textStep("text -1", -1),
		flagStep(), failStep("fail", api.ErrState), failStep("fail nil", nil),
	}
}

// P1.1: in every order: all rows of four calls over several lists of bytes.
func TestP1_1_EveryOrder(t *testing.T) {
	all := steps()
	rows := len(all) * len(all) * len(all) * len(all)
	for _, b := range []string{
		"", "\x00", "\x01", "\x02", "\x01\x00\x01", "\x02ab\x01\x00\x03x", "\x01\x01\x02\x00\x05",
		"\x40\x00\x00\x00\x00\x00\x00\x00\x01", "\x00\x40\x00\x00\x00\x00\x00\x00\x01", "\x01\xff\xff\xff\xff\xff\xff\xff\xff",
	} {
		for row := range rows {
			c, m := octets.At([]byte(b)), &model{rest: b}
			told := ""
			for n, left := 0, row; n < 4; n, left = n+1, left/len(all) {
				s := all[left%len(all)]
				told += s.name + "; "
				got, want := s.real(c), s.plan(m)
				if got != want || !agree(c, m) {
					t.Fatalf("%q: %s: %q, place %d, left %d, error %v; want %q, %d, %d, %v", b, told, got, c.Place(), c.Left(), c.Err(), want, m.gone, len(m.rest), m.err)
				}
			}
		}
	}
}

func agree(c *octets.Cursor, m *model) bool {
	end := m.err
	if end == nil && m.rest != "" {
		end = api.ErrLong
	}
	return c.Place() == m.gone && c.Left() == len(m.rest) && errors.Is(c.Err(), m.err) && errors.Is(c.End(), end)
}
