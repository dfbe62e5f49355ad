package object_test

import (
	"math"
	"math/rand"
	"strings"
	"testing"

	"linkboy/api"
	"linkboy/object"
)

// serviceChange is what a service of all becomes, and whether that is right.
type serviceChange struct {
	what string
	do   func(s *object.Service)
	want bool
}

func serviceChanges() []serviceChange {
	three := []api.Addr{four(1, 0, 0, 0), four(1, 0, 0, 0), six(0, 0)}
	bad := api.Addr{B: [16]byte{15: 1}}
	badFifth := api.Addr{B: [16]byte{4: 1}}
	internal := func(s *object.Service) { s.Kind, s.Balancers, s.Ports[0].Outer = 0, nil, 0 }
	list := []serviceChange{
		{"all of it", func(s *object.Service) {}, true},
		{"no space", func(s *object.Service) { s.Key.Space = "" }, false},
		{"no name", func(s *object.Service) { s.Key.Name = "" }, false},
		{"a name that is none", func(s *object.Service) { s.Key.Name = "Web" }, false},
		{"a long name", func(s *object.Service) { s.Key.Name = strings.Repeat("x", 16) }, false},
		{"the longest name", func(s *object.Service) { s.Key.Name = strings.Repeat("x", 15) }, true},
		{"internal", internal, true},
		{"internal with a balancer", func(s *object.Service) { internal(s); s.Balancers = three[:1] }, false},
		{"internal with a node port", func(s *object.Service) { internal(s); s.Ports[1].Outer = 1 }, false},
		{"node", func(s *object.Service) { s.Kind, s.Balancers = 1, nil }, true},
		{"node without node ports", func(s *object.Service) { s.Kind, s.Balancers, s.Ports[0].Outer = 1, []api.Addr{}, 0 }, true},
		{"node with a balancer", func(s *object.Service) { s.Kind = 1 }, false},
		{"balanced without balancers", func(s *object.Service) { s.Balancers = nil }, true},
		{"kind 3", func(s *object.Service) { s.Kind = 3 }, false},
		{"kind 258", func(s *object.Service) { s.Kind = 258 }, false},
		{"kind -1", func(s *object.Service) { internal(s); s.Kind = -1 }, false},
		{"no ports", func(s *object.Service) { s.Ports = nil }, false},
		{"one port", func(s *object.Service) { s.Ports = s.Ports[:1] }, true},
		{"a port without a name", func(s *object.Service) { s.Ports[1].Name = "" }, false},
		{"a port named wrong", func(s *object.Service) { s.Ports[1].Name = "dns-" }, false},
		{"names alike", func(s *object.Service) { s.Ports[1].Name = "http" }, false},
		{"ports alike", func(s *object.Service) { s.Ports[1].Port = 80 }, true},
		{"protocols alike", func(s *object.Service) { s.Ports[1].Proto = 6 }, true},
		{"alike in both", func(s *object.Service) { s.Ports[1].Proto, s.Ports[1].Port = 6, 80 }, false},
		{"node ports alike", func(s *object.Service) { s.Ports[1].Outer = 30080 }, true},
		{"protocol 0", func(s *object.Service) { s.Ports[1].Proto = 0 }, false},
		{"protocol 1", func(s *object.Service) { s.Ports[0].Proto = 1 }, false},
		{"protocol 262", func(s *object.Service) { s.Ports[0].Proto = 262 }, false},
		{"no sticky, ticks", func(s *object.Service) { s.Sticky = false }, false},
		{"no sticky, no ticks", func(s *object.Service) { s.Sticky, s.Ticks = false, 0 }, true},
		{"no sticky, ticks below 0", func(s *object.Service) { s.Sticky, s.Ticks = false, -1 }, false},
		{"no flags", func(s *object.Service) { s.InternalLocal, s.ExternalLocal, s.Hinted = false, false, false }, true},
		{"all flags", func(s *object.Service) { s.ExternalLocal = true }, true},
		{"nothing", func(s *object.Service) { *s = object.Service{} }, false},
		{"the least", func(s *object.Service) {
			*s = object.Service{Key: api.Key{Space: "a", Name: "b"}, Ports: []object.Port{{Name: "p", Proto: 17, Port: 1}}}
		}, true},
	}
	for what, of := range map[string]func(s *object.Service) *[]api.Addr{
		"cluster":   func(s *object.Service) *[]api.Addr { return &s.Cluster },
		"external":  func(s *object.Service) *[]api.Addr { return &s.External },
		"balancers": func(s *object.Service) *[]api.Addr { return &s.Balancers },
	} {
		list = append(list,
			serviceChange{what + ": none", func(s *object.Service) { *of(s) = nil }, true},
			serviceChange{what + ": three, two alike", func(s *object.Service) { *of(s) = three }, true},
			serviceChange{what + ": four", func(s *object.Service) { *of(s) = append(three[:3:3], four(2, 0, 0, 0)) }, false},
			serviceChange{what + ": a wrong one", func(s *object.Service) { *of(s) = []api.Addr{bad} }, false},
			serviceChange{what + ": the last one wrong", func(s *object.Service) { *of(s) = append(three[:2:2], badFifth) }, false})
	}
	for n, want := range map[int]bool{0: false, 1: true, 65535: true, 65536: false, -1: false, 65536 + 80: false, math.MinInt: false, math.MaxInt: false} {
		list = append(list, serviceChange{"a port of such a number", func(s *object.Service) { s.Ports[1].Port = n }, want},
			serviceChange{"a node port of such a number", func(s *object.Service) { s.Ports[1].Outer = n }, want || n == 0})
	}
	for n, want := range map[int]bool{0: false, 1: true, 1 << 40: true, 1<<40 + 1: false, -1: false, math.MinInt: false, math.MaxInt: false} {
		list = append(list, serviceChange{"so many ticks", func(s *object.Service) { s.Ticks = n }, want})
	}
	for n, want := range map[int]bool{0: true, 1: true, 4: true, 5: false, 300: false} {
		list = append(list, serviceChange{"so many ranges", func(s *object.Service) {
			s.Ranges = make([]api.Cidr, n)
		}, want})
	}
	for n, want := range map[int]bool{1: true, 3: true, 4: true, 5: false, 26: false} {
		list = append(list, serviceChange{"so many ports", func(s *object.Service) {
			s.Ports = nil
			for i := range n {
				s.Ports = append(s.Ports, object.Port{Name: string(rune('a' + i)), Proto: 6, Port: 1 + i, Outer: 1})
			}
		}, want})
	}
	for _, c := range []api.Cidr{{Addr: bad, Bits: 32}, {Addr: four(10, 0, 0, 1), Bits: 31}, {Addr: four(10, 0, 0, 0), Bits: 33}, {Addr: four(0, 0, 0, 0), Bits: -1}} {
		list = append(list, serviceChange{"a wrong range", func(s *object.Service) { s.Ranges[1] = c }, false})
	}
	return list
}

// P13.1: a service is right just if all is so that is told of it.
func TestP13_1_RightService(t *testing.T) {
	for _, x := range serviceChanges() {
		s := service()
		x.do(&s)
		if object.RightService(s) != x.want {
			t.Errorf("%s: right %v; want %v: %s", x.what, !x.want, x.want, tell(s))
		}
	}
}

// sliceChange is what a slice of all becomes, and whether that is right.
type sliceChange struct {
	what string
	do   func(s *object.Slice)
	want bool
}

func sliceChanges() []sliceChange {
	end := func(i int, do func(e *object.Endpoint)) func(s *object.Slice) {
		return func(s *object.Slice) { do(&s.Endpoints[i]) }
	}
	list := []sliceChange{
		{"all of it", func(s *object.Slice) {}, true},
		{"no space", func(s *object.Slice) { s.Key.Space = "" }, false},
		{"no name", func(s *object.Slice) { s.Key.Name = "" }, false},
		{"a space that is none", func(s *object.Slice) { s.Key.Space = "a/b" }, false},
		{"no service", func(s *object.Slice) { s.Service = "" }, false},
		{"a service that is none", func(s *object.Slice) { s.Service = "-web" }, false},
		{"a service's longest name", func(s *object.Slice) { s.Service = "abcdefghij-mnop" }, true},
		{"a service's name that is longer", func(s *object.Slice) { s.Service = "abcdefghijkl-nop" }, false},
		{"no ports", func(s *object.Slice) { s.Ports = nil }, true},
		{"no endpoints", func(s *object.Slice) { s.Endpoints = nil }, true},
		{"six without endpoints", func(s *object.Slice) { s.Six, s.Endpoints = true, nil }, true},
		{"six, endpoints of four bytes", func(s *object.Slice) { s.Six = true }, false},
		{"six, endpoints of sixteen", func(s *object.Slice) {
			s.Six, s.Endpoints[0].Addr, s.Endpoints[1].Addr = true, six(1, 2), six(0, 0)
		}, true},
		{"six, the last endpoint of four", func(s *object.Slice) { s.Six, s.Endpoints[0].Addr = true, six(1, 2) }, false},
		{"an endpoint of sixteen bytes", end(1, func(e *object.Endpoint) { e.Addr = six(1, 2) }), false},
		{"a wrong address", end(1, func(e *object.Endpoint) { e.Addr.B[4] = 1 }), false},
		{"addresses alike", end(1, func(e *object.Endpoint) { e.Addr = four(10, 0, 0, 1) }), true},
		{"no node", end(0, func(e *object.Endpoint) { e.Node = "" }), true},
		{"a node that is none", end(1, func(e *object.Endpoint) { e.Node = "n_1" }), false},
		{"a long node", end(1, func(e *object.Endpoint) { e.Node = strings.Repeat("n", 16) }), false},
		{"all flags", end(0, func(e *object.Endpoint) { e.Terminating = true }), true},
		{"no zones", end(0, func(e *object.Endpoint) { e.Zones = nil }), true},
		{"three zones", end(0, func(e *object.Endpoint) { e.Zones = []string{"a", "a-b", "b"} }), true},
		{"four zones", end(0, func(e *object.Endpoint) { e.Zones = []string{"a", "b", "c", "d"} }), false},
		{"an empty zone", end(0, func(e *object.Endpoint) { e.Zones = []string{"", "a"} }), false},
		{"a zone that is none", end(1, func(e *object.Endpoint) { e.Zones = []string{"a", "b-"} }), false},
		{"falling zones", end(0, func(e *object.Endpoint) { e.Zones = []string{"b", "a"} }), false},
		{"zones that fall at the end", end(0, func(e *object.Endpoint) { e.Zones = []string{"b", "c", "a"} }), false},
		{"zones that fall at first", end(0, func(e *object.Endpoint) { e.Zones = []string{"b", "a", "c"} }), false},
		{"zones alike", end(0, func(e *object.Endpoint) { e.Zones = []string{"a", "b", "b"} }), false},
		{"a port without a name", func(s *object.Slice) { s.Ports[1].Name = "" }, false},
		{"a port named wrong", func(s *object.Slice) { s.Ports[0].Name = "HTTP" }, false},
		{"names alike", func(s *object.Slice) { s.Ports[1].Name = "http" }, false},
		{"ports alike in both", func(s *object.Slice) { s.Ports[1].Proto, s.Ports[1].Port = 6, 8080 }, true},
		{"a node port", func(s *object.Slice) { s.Ports[1].Outer = 30080 }, false},
		{"a node port below 0", func(s *object.Slice) { s.Ports[0].Outer = -1 }, false},
		{"protocol 0", func(s *object.Slice) { s.Ports[0].Proto = 0 }, false},
		{"protocol 273", func(s *object.Slice) { s.Ports[1].Proto = 273 }, false},
		{"nothing", func(s *object.Slice) { *s = object.Slice{} }, false},
		{"the least", func(s *object.Slice) {
			*s = object.Slice{Key: api.Key{Space: "a", Name: "b"}, Service: "c"}
		}, true},
	}
	for n, want := range map[int]bool{0: false, 1: true, 65535: true, 65536: false, -1: false, math.MinInt: false, math.MaxInt: false} {
		list = append(list, sliceChange{"a port of such a number", func(s *object.Slice) { s.Ports[1].Port = n }, want})
	}
	for n, want := range map[int]bool{1: true, 4: true, 5: false, 26: false} {
		list = append(list, sliceChange{"so many ports", func(s *object.Slice) {
			s.Ports = nil
			for i := range n {
				s.Ports = append(s.Ports, object.Port{Name: string(rune('a' + i)), Proto: 6, Port: 1})
			}
		}, want})
	}
	for n, want := range map[int]bool{1: true, 8: true, 9: false, 300: false} {
		list = append(list, sliceChange{"so many endpoints", func(s *object.Slice) { s.Endpoints = make([]object.Endpoint, n) }, want})
	}
	return list
}

// P13.1: a slice is right just if all is so that is told of it.
func TestP13_1_RightSlice(t *testing.T) {
	for _, x := range sliceChanges() {
		s := slice()
		x.do(&s)
		if object.RightSlice(s) != x.want {
			t.Errorf("%s: right %v; want %v: %s", x.what, !x.want, x.want, tell(s))
		}
	}
}

// nodeChange is what a node of all becomes, and whether that is right.
type nodeChange struct {
	what string
	do   func(n *object.Node)
	want bool
}

func nodeChanges() []nodeChange {
	return []nodeChange{
		{"all of it", func(n *object.Node) {}, true},
		{"no name", func(n *object.Node) { n.Name = "" }, false},
		{"a name that is none", func(n *object.Node) { n.Name = "n 1" }, false},
		{"the longest name", func(n *object.Node) { n.Name = strings.Repeat("n", 15) }, true},
		{"a long name", func(n *object.Node) { n.Name = strings.Repeat("n", 16) }, false},
		{"no zone", func(n *object.Node) { n.Zone = "" }, true},
		{"a zone that is none", func(n *object.Node) { n.Zone = "east-" }, false},
		{"a long zone", func(n *object.Node) { n.Zone = strings.Repeat("z", 16) }, false},
		{"no addresses", func(n *object.Node) { n.Addrs = nil }, true},
		{"three addresses, two alike", func(n *object.Node) { n.Addrs = append(n.Addrs, n.Addrs[0]) }, true},
		{"four addresses", func(n *object.Node) { n.Addrs = append(n.Addrs, n.Addrs...) }, false},
		{"a wrong address", func(n *object.Node) { n.Addrs[0].B[15] = 1 }, false},
		{"the last address wrong", func(n *object.Node) { n.Addrs[1].Six = false }, false},
		{"nothing", func(n *object.Node) { *n = object.Node{} }, false},
		{"the least", func(n *object.Node) { *n = object.Node{Name: "0"} }, true},
	}
}

// P13.1: a node is right just if all is so that is told of it.
func TestP13_1_RightNode(t *testing.T) {
	for _, x := range nodeChanges() {
		n := node()
		x.do(&n)
		if object.RightNode(n) != x.want {
			t.Errorf("%s: right %v; want %v: %s", x.what, !x.want, x.want, tell(n))
		}
	}
}

// P13.1: objects by chance are right just if the model says so; there are many of both.
func TestP13_1_RightByChance(t *testing.T) {
	m := maker{rand.New(rand.NewSource(13)), 60}
	count := map[bool]int{}
	for range 20000 {
		s, l, n := m.service(), m.slice(), m.node()
		if object.RightService(s) != serviceIs(s) {
			t.Fatalf("service right %v: %s", !serviceIs(s), tell(s))
		}
		if object.RightSlice(l) != sliceIs(l) {
			t.Fatalf("slice right %v: %s", !sliceIs(l), tell(l))
		}
		if object.RightNode(n) != nodeIs(n) {
			t.Fatalf("node right %v: %s", !nodeIs(n), tell(n))
		}
		count[serviceIs(s)]++
		count[sliceIs(l)]++
	}
	if count[true] < 5000 || count[false] < 5000 {
		t.Fatalf("too few of one: %v", count)
	}
}
