package ports

import (
	"strconv"
	"strings"

	"linkboy/addr"
	"linkboy/api"
)

const (
	tcpWord  = "tcp"
	udpWord  = "udp"
	colon    = ":" // between an address and a port
	opening  = "[" // ahead of an address of sixteen bytes
	closing  = "]" // behind it
	portBits = 16
)

// Word is a protocol's word.
func Word(proto int) string {
	switch proto {
	case api.TCP:
		return tcpWord
	case api.UDP:
		return udpWord
	}
	return ""
}

// Named is a word's protocol.
func Named(word string) (int, error) {
	switch word {
	case tcpWord:
		return api.TCP, nil
	case udpWord:
		return api.UDP, nil
	}
	return 0, api.ErrProto
}

// Parse is a text's point.
func Parse(s string) (api.Point, error) {
	// An address of sixteen bytes has colons of its own, so the port's is the last one.
	place := strings.LastIndex(s, colon)
	if place < 0 {
		return api.Point{}, api.ErrForm
	}
	a, addrOk := parseAddr(s[:place])
	port, portOk := parsePort(s[place+len(colon):])
	if !addrOk || !portOk {
		return api.Point{}, api.ErrForm
	}
	return api.Point{Addr: a, Port: port}, nil
}

// Format is a point's text.
func Format(p api.Point) string {
	if !Point(p) {
		return ""
	}
	return formatAddr(p.Addr) + colon + strconv.Itoa(p.Port)
}

// parseAddr is the address of a text, if it is one, and stands in brackets just if it has sixteen bytes.
func parseAddr(s string) (api.Addr, bool) {
	bracketed := strings.HasPrefix(s, opening) && strings.HasSuffix(s, closing)
	if bracketed {
		s = s[len(opening) : len(s)-len(closing)]
	}
	a, err := addr.Parse(s)
	if err != nil || a.Six != bracketed {
		return api.Addr{}, false
	}
	return a, true
}

// parsePort is the port of figures, if they are one's.
func parsePort(s string) (int, bool) {
	n, err := strconv.ParseUint(s, 10, portBits)
	if err != nil || s[0] == '0' {
		// No port is nought, so a nought ahead is always one too many.
		return 0, false
	}
	return int(n), true
}

// formatAddr is an address's text, as it stands ahead of a port.
func formatAddr(a api.Addr) string {
	if a.Six {
		return opening + addr.Format(a) + closing
	}
	return addr.Format(a)
}
