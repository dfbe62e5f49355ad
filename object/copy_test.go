package object_test

import (
	"math"
	"math/rand"
	"reflect"
	"testing"

	"linkboy/api"
	"linkboy/object"
	"linkboy/octets"
)

// room is a list with room behind it, in which one more lies that no call may write to.
func room[T any](list []T, behind T) []T { return append(append([]T{}, list...), behind)[:len(list)] }

// kept tells whether the room behind a list is as it was.
func kept[T any](list []T, behind T) bool {
	return reflect.DeepEqual(list[:len(list)+1][len(list)], behind)
}

var (
	otherAddr = six(0xee, 0xee)
	otherCidr = api.Cidr{Addr: otherAddr, Bits: 128}
	otherPort = object.Port{Name: "other", Proto: 17, Port: 9, Outer: 99}
	otherEnd  = object.Endpoint{Addr: otherAddr, Node: "other", Serving: true}
)

func roomyService(s object.Service) object.Service {
	s.Cluster, s.External, s.Balancers = room(s.Cluster, otherAddr), room(s.External, otherAddr), room(s.Balancers, otherAddr)
	s.Ranges, s.Ports = room(s.Ranges, otherCidr), room(s.Ports, otherPort)
	return s
}

func keptService(s object.Service) bool {
	return kept(s.Cluster, otherAddr) && kept(s.External, otherAddr) && kept(s.Balancers, otherAddr) && kept(s.Ranges, otherCidr) && kept(s.Ports, otherPort)
}

func roomySlice(s object.Slice) object.Slice {
	s.Ports, s.Endpoints = room(s.Ports, otherPort), room(s.Endpoints, otherEnd)
	for i := range s.Endpoints {
		s.Endpoints[i].Zones = room(s.Endpoints[i].Zones, "other")
	}
	return s
}

func keptSlice(s object.Slice) bool {
	for _, e := range s.Endpoints {
		if !kept(e.Zones, "other") {
			return false
		}
	}
	return kept(s.Ports, otherPort) && kept(s.Endpoints, otherEnd)
}

func roomyNode(n object.Node) object.Node {
	n.Addrs = room(n.Addrs, otherAddr)
	return n
}

func keptNode(n object.Node) bool { return kept(n.Addrs, otherAddr) }

// fill writes over a list, and over all the room behind it.
func fill[T any](list []T, with T) {
	list = list[:cap(list)]
	for i := range list {
		list[i] = with
	}
}

func spoilService(s object.Service) {
	fill(s.Cluster, otherAddr)
	fill(s.External, otherAddr)
	fill(s.Balancers, otherAddr)
	fill(s.Ranges, otherCidr)
	fill(s.Ports, otherPort)
}

func spoilSlice(s object.Slice) {
	for _, e := range s.Endpoints {
		fill(e.Zones, "other")
	}
	fill(s.Ports, otherPort)
	fill(s.Endpoints, otherEnd)
}

func spoilNode(n object.Node) { fill(n.Addrs, otherAddr) }

// P13.1: a copy is as what it was made of, right or not, and apart from it.
func TestP13_1_CopyApart(t *testing.T) {
	m := maker{rand.New(rand.NewSource(133)), 20}
	for range 3000 {
		checkService(t, m.service())
		checkSlice(t, m.slice())
		checkNode(t, m.node())
	}
	checkService(t, service())
	checkSlice(t, slice())
	checkNode(t, node())
}

func checkService(t *testing.T, s object.Service) {
	t.Helper()
	was := tell(s)
	roomy := roomyService(s)
	got := object.CopyService(roomy)
	if tell(got) != was {
		t.Fatalf("copy %s of %s", tell(got), was)
	}
	again := object.CopyService(roomy)
	spoilService(got)
	if tell(roomy) != was || !keptService(roomy) || tell(again) != was {
		t.Fatalf("the copy hangs together with %s", was)
	}
	spoilService(roomy)
	if tell(again) != was {
		t.Fatalf("the copy hangs on %s", was)
	}
}

func checkSlice(t *testing.T, s object.Slice) {
	t.Helper()
	was := tell(s)
	roomy := roomySlice(s)
	got := object.CopySlice(roomy)
	if tell(got) != was {
		t.Fatalf("copy %s of %s", tell(got), was)
	}
	again := object.CopySlice(roomy)
	spoilSlice(got)
	if tell(roomy) != was || !keptSlice(roomy) || tell(again) != was {
		t.Fatalf("the copy hangs together with %s", was)
	}
	spoilSlice(roomy)
	if tell(again) != was {
		t.Fatalf("the copy hangs on %s", was)
	}
}

func checkNode(t *testing.T, n object.Node) {
	t.Helper()
	was := tell(n)
	roomy := roomyNode(n)
	got := object.CopyNode(roomy)
	if tell(got) != was {
		t.Fatalf("copy %s of %s", tell(got), was)
	}
	again := object.CopyNode(roomy)
	spoilNode(got)
	if tell(roomy) != was || !keptNode(roomy) || tell(again) != was {
		t.Fatalf("the copy hangs together with %s", was)
	}
	spoilNode(roomy)
	if tell(again) != was {
		t.Fatalf("the copy hangs on %s", was)
	}
}

// P13.1: lists that share their memory don't share it in a copy.
func TestP13_1_CopyOfShared(t *testing.T) {
	addrs, zones := []api.Addr{four(1, 1, 1, 1)}, []string{"a", "b"}
	s := object.CopyService(object.Service{Cluster: addrs, External: addrs, Balancers: addrs})
	s.Cluster[0], s.External[0] = four(2, 2, 2, 2), four(3, 3, 3, 3)
	if s.Cluster[0] != four(2, 2, 2, 2) || s.Balancers[0] != addrs[0] {
		t.Fatal("a service's lists hang together")
	}
	l := object.CopySlice(object.Slice{Endpoints: []object.Endpoint{{Zones: zones}, {Zones: zones}}})
	l.Endpoints[0].Zones[0] = "z"
	if l.Endpoints[1].Zones[0] != "a" || zones[0] != "a" {
		t.Fatal("a slice's lists hang together")
	}
}

// P13.1: lists that aren't there aren't there in a copy either.
func TestP13_1_CopyNothing(t *testing.T) {
	if !reflect.DeepEqual(object.CopyService(object.Service{}), object.Service{}) ||
		!reflect.DeepEqual(object.CopySlice(object.Slice{}), object.Slice{}) ||
		!reflect.DeepEqual(object.CopyNode(object.Node{}), object.Node{}) {
		t.Fatal("copies of nothing")
	}
}

// P13.1: no call writes to what it is given, nor behind it, and what one answers is its caller's.
func TestP13_1_ArgumentsStay(t *testing.T) {
	m := maker{rand.New(rand.NewSource(134)), 40}
	for range 3000 {
		s, l, n := roomyService(m.service()), roomySlice(m.slice()), roomyNode(m.node())
		was := tell(s) + tell(l) + tell(n)
		object.RightService(s)
		object.RightSlice(l)
		object.RightNode(n)
		for _, put := range []func() []byte{
			func() []byte { return object.PutService(s) },
			func() []byte { return object.PutSlice(l) },
			func() []byte { return object.PutNode(n) },
		} {
			b := put()
			text := string(b)
			other := put()
			fill(b, 0xee)
			if string(other) != text || string(put()) != text {
				t.Fatalf("bytes hang together: %q", text)
			}
		}
		if tell(s)+tell(l)+tell(n) != was || !keptService(s) || !keptSlice(l) || !keptNode(n) {
			t.Fatalf("changed: %s", was)
		}
	}
}

// P13.1: what was read hangs neither on the cursor's bytes nor on what was read elsewhere, nor one list of it on another.
func TestP13_1_ReadApart(t *testing.T) {
	b := []byte(serviceBytes + sliceBytes + nodeBytes)
	c, d := octets.At(b), octets.At(b)
	s, l, n := object.ReadService(c), object.ReadSlice(c), object.ReadNode(c)
	s2, l2, n2 := object.ReadService(d), object.ReadSlice(d), object.ReadNode(d)
	spoilService(s)
	spoilSlice(l)
	spoilNode(n)
	fill(b, 0xee)
	if tell(s2) != tell(service()) || tell(l2) != tell(slice()) || tell(n2) != tell(node()) {
		t.Fatal("what was read hangs together")
	}
	fill(s2.External, otherAddr)
	fill(l2.Endpoints[0].Zones, "other")
	want, wantSlice := service(), slice()
	want.External[0] = otherAddr
	wantSlice.Endpoints[0].Zones = []string{"other", "other"}
	if tell(s2) != tell(want) || tell(l2) != tell(wantSlice) {
		t.Fatal("lists of what was read hang together")
	}
}

// P13.1: no numbers, texts and lists make a call panic, and what isn't right has no bytes.
func TestP13_1_NoPanic(t *testing.T) {
	texts := []string{"", "a", "\x00", "\xff\xfe", string(make([]byte, 1000))}
	numbers := []int{0, 1, -1, 6, 255, 256, 65536, 1 << 40, math.MaxInt, math.MinInt}
	chance := rand.New(rand.NewSource(135))
	text := func() string { return texts[chance.Intn(len(texts))] }
	number := func() int { return numbers[chance.Intn(len(numbers))] }
	size := func() int { return []int{0, 0, 1, 2, 9, 300}[chance.Intn(6)] }
	odd := api.Addr{B: [16]byte{4: 1}}
	for range 500 {
		s := object.Service{Key: api.Key{Space: text(), Name: text()}, Kind: number(), Ticks: number(), Sticky: chance.Intn(2) == 0,
			Cluster: make([]api.Addr, size()), External: []api.Addr{odd}, Ranges: []api.Cidr{{Addr: odd, Bits: number()}, {Bits: number()}}}
		l := object.Slice{Key: s.Key, Service: text(), Six: s.Sticky, Endpoints: make([]object.Endpoint, size())}
		for range size() {
			p := object.Port{Name: text(), Proto: number(), Port: number(), Outer: number()}
			s.Ports, l.Ports = append(s.Ports, p), append(l.Ports, p)
		}
		for i := range l.Endpoints {
			l.Endpoints[i] = object.Endpoint{Addr: odd, Node: text(), Zones: make([]string, size())}
		}
		n := object.Node{Name: text(), Zone: text(), Addrs: make([]api.Addr, size())}
		if object.RightService(s) || object.RightSlice(l) && !sliceIs(l) || object.RightNode(n) != nodeIs(n) {
			t.Fatal("right, and isn't")
		}
		if object.PutService(s) != nil || !sliceIs(l) && object.PutSlice(l) != nil || !nodeIs(n) && object.PutNode(n) != nil {
			t.Fatal("bytes of what isn't right")
		}
		if tell(object.CopyService(s)) != tell(s) || tell(object.CopySlice(l)) != tell(l) || tell(object.CopyNode(n)) != tell(n) {
			t.Fatal("other copies")
		}
	}
	for range 20000 {
		b := make([]byte, chance.Intn(60))
		for i := range b {
			b[i] = byte(chance.Intn(5))
		}
		readService(string(b))
		readSlice(string(b))
		readNode(string(b))
	}
}
