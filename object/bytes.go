package object

import (
	"slices"

	"linkboy/addr"
	"linkboy/api"
	"linkboy/cidr"
	"linkboy/names"
	"linkboy/octets"
)

// How many bytes a number has, as it is put.
const (
	kindSize  = 1
	countSize = 1
	protoSize = 1
	portSize  = 2
	ticksSize = 8
)

// PutService is a service's bytes.
func PutService(s Service) []byte {
	if !RightService(s) {
		return nil
	}
	return slices.Concat(
		names.PutKey(s.Key),
		number(s.Kind, kindSize),
		putList(s.Cluster, addr.Put),
		putList(s.External, addr.Put),
		putList(s.Balancers, addr.Put),
		putList(s.Ranges, cidr.Put),
		putList(s.Ports, func(p Port) []byte { return append(putPort(p), number(p.Outer, portSize)...) }),
		octets.Flag(s.InternalLocal),
		octets.Flag(s.ExternalLocal),
		octets.Flag(s.Sticky),
		number(s.Ticks, ticksSize),
		octets.Flag(s.Hinted),
	)
}

// PutSlice is a slice's bytes.
func PutSlice(s Slice) []byte {
	if !RightSlice(s) {
		return nil
	}
	return slices.Concat(
		names.PutKey(s.Key),
		names.Put(s.Service),
		octets.Flag(s.Six),
		putList(s.Ports, putPort),
		putList(s.Endpoints, putEndpoint),
	)
}

// PutNode is a node's bytes.
func PutNode(n Node) []byte {
	if !RightNode(n) {
		return nil
	}
	return slices.Concat(names.Put(n.Name), text(n.Zone), putList(n.Addrs, addr.Put))
}

// ReadService reads a service.
func ReadService(c *octets.Cursor) Service {
	addrs := func() []api.Addr { return readList(c, api.MaxAddrs, addr.Read) }
	outerPort := func(c *octets.Cursor) Port {
		p := readPort(c)
		p.Outer = c.Num(portSize)
		return p
	}
	return readWhole(c, func() Service {
		return Service{
			Key:           names.ReadKey(c),
			Kind:          c.Num(kindSize),
			Cluster:       addrs(),
			External:      addrs(),
			Balancers:     addrs(),
			Ranges:        readList(c, api.MaxRanges, cidr.Read),
			Ports:         readList(c, api.MaxPorts, outerPort),
			InternalLocal: c.Flag(),
			ExternalLocal: c.Flag(),
			Sticky:        c.Flag(),
			Ticks:         c.Num(ticksSize),
			Hinted:        c.Flag(),
		}
	}, RightService)
}

// ReadSlice reads a slice.
func ReadSlice(c *octets.Cursor) Slice {
	return readWhole(c, func() Slice {
		return Slice{
			Key:       names.ReadKey(c),
			Service:   names.Read(c),
			Six:       c.Flag(),
			Ports:     readList(c, api.MaxPorts, readPort),
			Endpoints: readList(c, api.MaxEndpoints, readEndpoint),
		}
	}, RightSlice)
}

// ReadNode reads a node.
func ReadNode(c *octets.Cursor) Node {
	return readWhole(c, func() Node {
		return Node{
			Name:  names.Read(c),
			Zone:  c.Text(api.MaxLabel),
			Addrs: readList(c, api.MaxAddrs, addr.Read),
		}
	}, RightNode)
}

// putPort is the bytes of what every port has: a slice's has no node port.
func putPort(p Port) []byte {
	return slices.Concat(names.Put(p.Name), number(p.Proto, protoSize), number(p.Port, portSize))
}

// readPort reads what every port has.
func readPort(c *octets.Cursor) Port {
	return Port{Name: names.Read(c), Proto: c.Num(protoSize), Port: c.Num(portSize)}
}

// putEndpoint is an endpoint's bytes.
func putEndpoint(e Endpoint) []byte {
	return slices.Concat(
		addr.Put(e.Addr),
		text(e.Node),
		octets.Flag(e.Ready),
		octets.Flag(e.Serving),
		octets.Flag(e.Terminating),
		putList(e.Zones, names.Put),
	)
}

// readEndpoint reads an endpoint.
func readEndpoint(c *octets.Cursor) Endpoint {
	return Endpoint{
		Addr:        addr.Read(c),
		Node:        c.Text(api.MaxLabel),
		Ready:       c.Flag(),
		Serving:     c.Flag(),
		Terminating: c.Flag(),
		Zones:       readList(c, api.MaxZones, names.Read),
	}
}

// number is a number's bytes: those of what is right have room in its size, so there is no error.
func number(n, size int) []byte {
	b, _ := octets.Num(n, size)
	return b
}

// text is the bytes of a text that may be empty: a label is short enough, so there is no error.
func text(s string) []byte {
	b, _ := octets.Text(s)
	return b
}
