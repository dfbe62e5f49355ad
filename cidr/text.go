package cidr

import (
	"strconv"
	"strings"

	"linkboy/addr"
	"linkboy/api"
)

const (
	slash   = "/"
	maxBits = 128 // of any address
)

// Parse is a text's cidr.
func Parse(s string) (api.Cidr, error) {
	ahead, behind, found := strings.Cut(s, slash)
	a, err := addr.Parse(ahead)
	bits, ok := figures(behind)
	if !found || err != nil || !ok {
		return api.Cidr{}, api.ErrForm
	}
	c, err := Of(a, bits)
	if err != nil {
		return api.Cidr{}, err
	}
	if c.Addr != a {
		return api.Cidr{}, api.ErrAddress
	}
	return c, nil
}

// Format is a cidr's text.
func Format(c api.Cidr) string {
	if !Right(c) {
		return ""
	}
	return addr.Format(c.Addr) + slash + strconv.Itoa(c.Bits)
}

// figures is the number of bits that a text tells, if it is one that some address has.
func figures(s string) (int, bool) {
	n, err := strconv.ParseUint(s, 10, 8)
	if err != nil || n > maxBits || len(s) > 1 && s[0] == '0' {
		return 0, false
	}
	return int(n), true
}
