package object_test

import (
	"fmt"
	"math/rand"
	"strings"

	"linkboy/api"
	"linkboy/object"
)

// The most that a list has, in figures: the limits of the document, not the program's.
const (
	mostAddrs, mostRanges, mostPorts, mostEndpoints, mostZones = 3, 4, 4, 8, 3

	mostTick = 1 << 40
)

// four and six are addresses of few bytes, and of many.
func four(a, b, c, d byte) api.Addr { return api.Addr{B: [16]byte{a, b, c, d}} }

func six(first, last byte) api.Addr { return api.Addr{Six: true, B: [16]byte{0: first, 15: last}} }

// service is one with all that a service may have, new each time.
func service() object.Service {
	return object.Service{
		Key:           api.Key{Space: "a", Name: "web"},
		Kind:          2,
		Cluster:       []api.Addr{four(10, 96, 0, 1), six(0x20, 1)},
		External:      []api.Addr{four(192, 0, 2, 1)},
		Balancers:     []api.Addr{four(198, 51, 100, 7)},
		Ranges:        []api.Cidr{{Addr: four(10, 0, 0, 0), Bits: 8}, {Addr: six(0, 0), Bits: 0}},
		Ports:         []object.Port{{Name: "http", Proto: 6, Port: 80, Outer: 30080}, {Name: "dns", Proto: 17, Port: 53}},
		InternalLocal: true,
		Sticky:        true,
		Ticks:         258,
		Hinted:        true,
	}
}

const serviceBytes = "\x01a\x03web" + "\x02" +
	"\x02\x04\x0a\x60\x00\x01\x06\x20\x00\x00\x00\x00\x00\x00\x00\x00\x00\x00\x00\x00\x00\x00\x01" +
	"\x01\x04\xc0\x00\x02\x01" +
	"\x01\x04\xc6\x33\x64\x07" +
	"\x02\x04\x0a\x00\x00\x00\x08\x06\x00\x00\x00\x00\x00\x00\x00\x00\x00\x00\x00\x00\x00\x00\x00\x00\x00" +
	"\x02\x04http\x06\x00\x50\x75\x80\x03dns\x11\x00\x35\x00\x00" +
	"\x01\x00" + "\x01\x00\x00\x00\x00\x00\x00\x01\x02" + "\x01"

// slice is one with all that a slice may have, new each time.
func slice() object.Slice {
	return object.Slice{
		Key:     api.Key{Space: "a", Name: "web-1"},
		Service: "web",
		Ports:   []object.Port{{Name: "http", Proto: 6, Port: 8080}, {Name: "dns", Proto: 17, Port: 53}},
		Endpoints: []object.Endpoint{
			{Addr: four(10, 0, 0, 1), Node: "n1", Ready: true, Serving: true, Zones: []string{"east", "west"}},
			{Addr: four(10, 0, 0, 2), Terminating: true},
		},
	}
}

const sliceBytes = "\x01a\x05web-1" + "\x03web" + "\x00" +
	"\x02\x04http\x06\x1f\x90\x03dns\x11\x00\x35" +
	"\x02\x04\x0a\x00\x00\x01\x02n1\x01\x01\x00\x02\x04east\x04west" +
	"\x04\x0a\x00\x00\x02\x00\x00\x00\x01\x00"

// node is one with all that a node may have, new each time.
func node() object.Node {
	return object.Node{Name: "n1", Zone: "east", Addrs: []api.Addr{four(10, 0, 0, 9), six(0x20, 9)}}
}

const nodeBytes = "\x02n1\x04east\x02\x04\x0a\x00\x00\x09\x06\x20\x00\x00\x00\x00\x00\x00\x00\x00\x00\x00\x00\x00\x00\x00\x09"

// tell is an object as a text, in which a list without items is one that isn't there.
func tell(x any) string { return fmt.Sprintf("%+v", x) }

// The model: what is right, one condition behind another, every two held against each other.

func label(s string) bool {
	const inner, outer = "abcdefghijklmnopqrstuvwxyz0123456789-", "abcdefghijklmnopqrstuvwxyz0123456789"
	return s != "" && len(s) <= 15 && strings.Trim(s, inner) == "" && strings.Trim(s[:1]+s[len(s)-1:], outer) == ""
}

func address(a api.Addr) bool { return a.Six || [12]byte(a.B[4:]) == [12]byte{} }

func addresses(list []api.Addr) bool {
	for _, a := range list {
		if !address(a) {
			return false
		}
	}
	return len(list) <= mostAddrs
}

func span(c api.Cidr) bool {
	most := 32
	if c.Addr.Six {
		most = 128
	}
	if !address(c.Addr) || c.Bits < 0 || c.Bits > most {
		return false
	}
	for i := c.Bits; i < 128; i++ {
		if c.Addr.B[i/8]>>(7-i%8)&1 != 0 {
			return false
		}
	}
	return true
}

func port(p object.Port) bool {
	return label(p.Name) && (p.Proto == 6 || p.Proto == 17) && p.Port > 0 && p.Port < 65536
}

func portsAlike(list []object.Port, alike func(a, b object.Port) bool) bool {
	for i, a := range list {
		for _, b := range list[:i] {
			if alike(a, b) {
				return true
			}
		}
	}
	return false
}

func serviceIs(s object.Service) bool {
	if !label(s.Key.Space) || !label(s.Key.Name) || s.Kind < 0 || s.Kind > 2 {
		return false
	}
	if !addresses(s.Cluster) || !addresses(s.External) || !addresses(s.Balancers) || s.Kind < 2 && len(s.Balancers) > 0 {
		return false
	}
	if len(s.Ranges) > mostRanges || len(s.Ports) == 0 || len(s.Ports) > mostPorts {
		return false
	}
	for _, c := range s.Ranges {
		if !span(c) {
			return false
		}
	}
	for _, p := range s.Ports {
		if !port(p) || p.Outer < 0 || p.Outer > 65535 || s.Kind == 0 && p.Outer != 0 {
			return false
		}
	}
	if portsAlike(s.Ports, func(a, b object.Port) bool { return a.Name == b.Name || a.Proto == b.Proto && a.Port == b.Port }) {
		return false
	}
	if s.Sticky {
		return s.Ticks > 0 && s.Ticks <= mostTick
	}
	return s.Ticks == 0
}

func endpointIs(e object.Endpoint, many bool) bool {
	for i, z := range e.Zones {
		if !label(z) || i > 0 && z <= e.Zones[i-1] {
			return false
		}
	}
	return address(e.Addr) && e.Addr.Six == many && (e.Node == "" || label(e.Node)) && len(e.Zones) <= mostZones
}

func sliceIs(s object.Slice) bool {
	for _, p := range s.Ports {
		if !port(p) || p.Outer != 0 {
			return false
		}
	}
	for _, e := range s.Endpoints {
		if !endpointIs(e, s.Six) {
			return false
		}
	}
	return label(s.Key.Space) && label(s.Key.Name) && label(s.Service) && len(s.Ports) <= mostPorts && len(s.Endpoints) <= mostEndpoints &&
		!portsAlike(s.Ports, func(a, b object.Port) bool { return a.Name == b.Name })
}

func nodeIs(n object.Node) bool {
	return label(n.Name) && (n.Zone == "" || label(n.Zone)) && addresses(n.Addrs)
}

// bytesOf is the model's bytes of what is right, part behind part.
func bytesOf(parts ...any) string {
	text := ""
	for _, part := range parts {
		switch x := part.(type) {
		case string:
			text += string([]byte{byte(len(x))}) + x
		case bool:
			text += map[bool]string{true: "\x01", false: "\x00"}[x]
		case int: // of one byte
			text += string([]byte{byte(x)})
		case uint16:
			text += string([]byte{byte(x >> 8), byte(x)})
		case int64:
			for i := 7; i >= 0; i-- {
				text += string([]byte{byte(x >> (8 * i))})
			}
		case api.Addr:
			if x.Six {
				text += "\x06" + string(x.B[:])
			} else {
				text += "\x04" + string(x.B[:4])
			}
		case []api.Addr:
			text += bytesOf(len(x))
			for _, a := range x {
				text += bytesOf(a)
			}
		}
	}
	return text
}

func bytesOfService(s object.Service) string {
	text := bytesOf(s.Key.Space, s.Key.Name, s.Kind, s.Cluster, s.External, s.Balancers, len(s.Ranges))
	for _, c := range s.Ranges {
		text += bytesOf(c.Addr, c.Bits)
	}
	text += bytesOf(len(s.Ports))
	for _, p := range s.Ports {
		text += bytesOf(p.Name, p.Proto, uint16(p.Port), uint16(p.Outer))
	}
	return text + bytesOf(s.InternalLocal, s.ExternalLocal, s.Sticky, int64(s.Ticks), s.Hinted)
}

func bytesOfSlice(s object.Slice) string {
	text := bytesOf(s.Key.Space, s.Key.Name, s.Service, s.Six, len(s.Ports))
	for _, p := range s.Ports {
		text += bytesOf(p.Name, p.Proto, uint16(p.Port))
	}
	text += bytesOf(len(s.Endpoints))
	for _, e := range s.Endpoints {
		text += bytesOf(e.Addr, e.Node, e.Ready, e.Serving, e.Terminating, len(e.Zones))
		for _, z := range e.Zones {
			text += bytesOf(z)
		}
	}
	return text
}

func bytesOfNode(n object.Node) string { return bytesOf(n.Name, n.Zone, n.Addrs) }

// reader is the model's cursor.
type reader struct {
	text  string
	place int
	err   error
}

func (r *reader) fail(err error) {
	if r.err == nil {
		r.err = err
	}
}

func (r *reader) take(n int) string {
	if r.err == nil && len(r.text)-r.place < n {
		r.err = api.ErrShort
	}
	if r.err != nil {
		return strings.Repeat("\x00", n)
	}
	r.place += n
	return r.text[r.place-n : r.place]
}

func (r *reader) number(size int) int {
	start, n := r.place, 0
	for i, b := range []byte(r.take(size)) {
		if i == 0 && size == 8 && b > 0x40 {
			r.fail(api.ErrRange)
			r.place = start
			return 0
		}
		n = n*256 + int(b)
	}
	if n > 1<<62 || n < 0 {
		r.fail(api.ErrRange)
		r.place = start
		return 0
	}
	return n
}

func (r *reader) flag() bool {
	b := r.take(1)
	if b[0] > 1 {
		r.fail(api.ErrForm)
		r.place--
	}
	return b == "\x01"
}

func (r *reader) words() string {
	start := r.place
	length := r.take(1)[0]
	if length > 15 {
		r.fail(api.ErrLong)
		r.place = start
		return ""
	}
	s := r.take(int(length))
	if r.err != nil {
		r.place = start
	}
	return s
}

func (r *reader) name() string {
	s := r.words()
	if !label(s) {
		r.fail(api.ErrName)
	}
	return s
}

func (r *reader) address() api.Addr {
	a := api.Addr{}
	switch r.take(1) {
	case "\x04":
		copy(a.B[:], r.take(4))
	case "\x06":
		a.Six = true
		copy(a.B[:], r.take(16))
	default:
		r.fail(api.ErrKind)
	}
	return a
}

// times does something as often as a byte tells, which may be at most so many.
func (r *reader) times(most int, do func()) {
	n := r.number(1)
	if n > most {
		r.fail(api.ErrFull)
		n = 0
	}
	for range n {
		do()
	}
}

func (r *reader) addresses() []api.Addr {
	var list []api.Addr
	r.times(mostAddrs, func() { list = append(list, r.address()) })
	return list
}

func (r *reader) port(outer bool) object.Port {
	p := object.Port{Name: r.name()}
	p.Proto = r.number(1)
	p.Port = r.number(2)
	if outer {
		p.Outer = r.number(2)
	}
	return p
}

func (r *reader) service() object.Service {
	s := object.Service{}
	s.Key.Space = r.name()
	s.Key.Name = r.name()
	s.Kind = r.number(1)
	s.Cluster = r.addresses()
	s.External = r.addresses()
	s.Balancers = r.addresses()
	r.times(mostRanges, func() {
		c := api.Cidr{Addr: r.address()}
		c.Bits = r.number(1)
		if !span(c) {
			r.fail(api.ErrRange)
		}
		s.Ranges = append(s.Ranges, c)
	})
	r.times(mostPorts, func() { s.Ports = append(s.Ports, r.port(true)) })
	s.InternalLocal = r.flag()
	s.ExternalLocal = r.flag()
	s.Sticky = r.flag()
	s.Ticks = r.number(8)
	s.Hinted = r.flag()
	if !serviceIs(s) {
		r.fail(api.ErrForm)
	}
	if r.err != nil {
		return object.Service{}
	}
	return s
}

func (r *reader) slice() object.Slice {
	s := object.Slice{}
	s.Key.Space = r.name()
	s.Key.Name = r.name()
	s.Service = r.name()
	s.Six = r.flag()
	r.times(mostPorts, func() { s.Ports = append(s.Ports, r.port(false)) })
	r.times(mostEndpoints, func() {
		e := object.Endpoint{Addr: r.address()}
		e.Node = r.words()
		e.Ready = r.flag()
		e.Serving = r.flag()
		e.Terminating = r.flag()
		r.times(mostZones, func() { e.Zones = append(e.Zones, r.name()) })
		s.Endpoints = append(s.Endpoints, e)
	})
	if !sliceIs(s) {
		r.fail(api.ErrForm)
	}
	if r.err != nil {
		return object.Slice{}
	}
	return s
}

func (r *reader) node() object.Node {
	n := object.Node{Name: r.name()}
	n.Zone = r.words()
	n.Addrs = r.addresses()
	if !nodeIs(n) {
		r.fail(api.ErrForm)
	}
	if r.err != nil {
		return object.Node{}
	}
	return n
}

// Objects by chance: each choice is a right one, but one of so many.

type maker struct {
	*rand.Rand
	rare int // one of so many choices is a wrong one
}

func (m maker) wrong() bool { return m.rare > 0 && m.Intn(m.rare) == 0 }

func (m maker) label() string {
	if m.wrong() {
		return []string{"", "-", "a-", "-a", "A", "a.b", "0123456789abcdef", "\x00", "\u00e9"}[m.Intn(9)]
	}
	return []string{"a", "web", "web-1", "0", "0123456789abcde", "z--z", "east", "west", "http", "dns"}[m.Intn(10)]
}

func (m maker) empty() string {
	if m.Intn(3) == 0 {
		return ""
	}
	return m.label()
}

func (m maker) address(many bool) api.Addr {
	a := api.Addr{Six: many}
	m.Read(a.B[:4])
	if many || m.wrong() {
		m.Read(a.B[4:])
	}
	return a
}

// count is how many a list has, at times one more than the most.
func (m maker) count(most int) int {
	if m.wrong() {
		return most + 1
	}
	return m.Intn(most + 1)
}

func (m maker) addresses() []api.Addr {
	var list []api.Addr
	for range m.count(mostAddrs) {
		list = append(list, m.address(m.Intn(2) == 0))
	}
	return list
}

func (m maker) span() api.Cidr {
	c := api.Cidr{Addr: m.address(m.Intn(2) == 0)}
	c.Bits = m.Intn(33)
	if c.Addr.Six {
		c.Bits = m.Intn(129)
	}
	if m.wrong() {
		c.Bits = []int{-1, 33, 129, 256, 264, 1 << 40}[m.Intn(6)]
		return c
	}
	for i := c.Bits; i < 128 && !m.wrong(); i++ {
		c.Addr.B[i/8] &^= 1 << (7 - i%8)
	}
	return c
}

func (m maker) number(right ...int) int {
	if m.wrong() {
		return []int{-1, 0, 1, 2, 3, 5, 7, 16, 18, 255, 256, 65535, 65536, 65542, mostTick, mostTick + 1, 1 << 62, 1<<63 - 1, -1 << 63}[m.Intn(19)]
	}
	return right[m.Intn(len(right))]
}

// ports are so many whose names differ, and whose ends do, but by chance.
func (m maker) ports(count int, outer ...int) []object.Port {
	var list []object.Port
	named := m.Perm(9)
	for i := range count {
		p := object.Port{Name: []string{"a", "b", "http", "dns", "0", "0123456789abcde", "z--z", "ab", "b-a"}[named[i]]}
		if m.wrong() {
			p.Name = m.label()
		}
		p.Proto = m.number(6, 17)
		p.Port = m.number([]int{1, 53, 80, 443, 65535}[(i+named[0])%5], 1000*(i+1)+m.Intn(1000))
		p.Outer = m.number(outer...)
		list = append(list, p)
	}
	return list
}

func (m maker) service() object.Service {
	s := object.Service{Key: api.Key{Space: m.label(), Name: m.label()}, Kind: m.number(0, 1, 2)}
	s.Cluster, s.External = m.addresses(), m.addresses()
	if s.Kind == 2 || m.wrong() {
		s.Balancers = m.addresses()
	}
	for range m.count(mostRanges) {
		s.Ranges = append(s.Ranges, m.span())
	}
	count := 1 + m.count(mostPorts-1)
	if m.wrong() {
		count = 0
	}
	if s.Kind == 0 && !m.wrong() {
		s.Ports = m.ports(count, 0)
	} else {
		s.Ports = m.ports(count, 0, 1, 30000, 65535)
	}
	s.InternalLocal, s.ExternalLocal, s.Hinted = m.Intn(2) == 0, m.Intn(2) == 0, m.Intn(2) == 0
	s.Sticky = m.Intn(2) == 0
	if s.Sticky {
		s.Ticks = m.number(1, 2, 255, 256, 1<<32, mostTick-1, mostTick)
	} else {
		s.Ticks = m.number(0)
	}
	return s
}

func (m maker) slice() object.Slice {
	s := object.Slice{Key: api.Key{Space: m.label(), Name: m.label()}, Service: m.label(), Six: m.Intn(2) == 0, Ports: m.ports(m.count(mostPorts), 0)}
	for range m.count(mostEndpoints) {
		e := object.Endpoint{Addr: m.address(s.Six != m.wrong()), Node: m.empty()}
		e.Ready, e.Serving, e.Terminating = m.Intn(2) == 0, m.Intn(2) == 0, m.Intn(2) == 0
		zones := []string{"0", "a", "a-a", "b", "east", "east-1", "y", "z"}
		for range m.count(mostZones) {
			i := m.Intn(2)
			e.Zones = append(e.Zones, zones[i])
			zones = zones[i+1:]
		}
		if m.wrong() && len(e.Zones) > 0 {
			e.Zones[m.Intn(len(e.Zones))] = m.label()
		}
		s.Endpoints = append(s.Endpoints, e)
	}
	return s
}

func (m maker) node() object.Node {
	return object.Node{Name: m.label(), Zone: m.empty(), Addrs: m.addresses()}
}
