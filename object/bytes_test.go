package object_test

import (
	"errors"
	"math/rand"
	"strings"
	"testing"

	"linkboy/api"
	"linkboy/object"
	"linkboy/octets"
)

// P13.1: the chapter's example, and the bytes of all that an object may have.
func TestP13_1_PutKnown(t *testing.T) {
	for _, x := range []struct {
		what, want string
		got        []byte
	}{
		{"the chapter's node", "\x01n\x00\x00", object.PutNode(object.Node{Name: "n"})},
		{"a node", nodeBytes, object.PutNode(node())},
		{"a service", serviceBytes, object.PutService(service())},
		{"a slice", sliceBytes, object.PutSlice(slice())},
		{"the least service", "\x01a\x01b\x00\x00\x00\x00\x00\x01\x01p\x11\x00\x01\x00\x00" + strings.Repeat("\x00", 12),
			object.PutService(object.Service{Key: api.Key{Space: "a", Name: "b"}, Ports: []object.Port{{Name: "p", Proto: 17, Port: 1}}})},
		{"the least slice", "\x01a\x01b\x01c\x00\x00\x00", object.PutSlice(object.Slice{Key: api.Key{Space: "a", Name: "b"}, Service: "c"})},
		{"a slice of sixteen", "\x01a\x01b\x01c\x01\x00\x01\x06" + strings.Repeat("\x00", 15) + "\x01\x00\x00\x01\x00\x00",
			object.PutSlice(object.Slice{Key: api.Key{Space: "a", Name: "b"}, Service: "c", Six: true, Endpoints: []object.Endpoint{{Addr: six(0, 1), Serving: true}}})},
		{"no service", "", object.PutService(object.Service{})},
		{"no slice", "", object.PutSlice(object.Slice{})},
		{"no node", "", object.PutNode(object.Node{})},
	} {
		if string(x.got) != x.want {
			t.Errorf("%s: %q; want %q", x.what, x.got, x.want)
		}
	}
}

// P13.1: each flag and number has its own place among a service's bytes.
func TestP13_1_PutServicePlaces(t *testing.T) {
	end := len(serviceBytes)
	for _, x := range []struct {
		what  string
		do    func(s *object.Service)
		place int
		want  string
	}{
		{"InternalLocal", func(s *object.Service) { s.InternalLocal = false }, end - 12, "\x00"},
		{"ExternalLocal", func(s *object.Service) { s.ExternalLocal = true }, end - 11, "\x01"},
		{"Sticky", func(s *object.Service) { s.Sticky, s.Ticks = false, 0 }, end - 10, "\x00\x00\x00\x00\x00\x00\x00\x00\x00"},
		{"Ticks", func(s *object.Service) { s.Ticks = 1 << 40 }, end - 9, "\x00\x00\x01\x00\x00\x00\x00\x00"},
		{"Hinted", func(s *object.Service) { s.Hinted = false }, end - 1, "\x00"},
		{"a node port", func(s *object.Service) { s.Ports[1].Outer = 0x1234 }, end - 14, "\x12\x34"},
		{"a port", func(s *object.Service) { s.Ports[1].Port = 65535 }, end - 16, "\xff\xff"},
		{"a protocol", func(s *object.Service) { s.Ports[1].Proto = 6 }, end - 17, "\x06"},
	} {
		s := service()
		x.do(&s)
		got, want := string(object.PutService(s)), serviceBytes[:x.place]+x.want+serviceBytes[x.place+len(x.want):]
		if got != want {
			t.Errorf("%s: %q; want %q", x.what, got, want)
		}
	}
}

// P13.1: there are no bytes of what isn't right, and the model's of what is.
func TestP13_1_PutChanged(t *testing.T) {
	for _, x := range serviceChanges() {
		s := service()
		x.do(&s)
		if got, want := string(object.PutService(s)), bytesOfService(s); x.want && got != want || !x.want && got != "" {
			t.Errorf("service: %s: %q; want %v %q", x.what, got, x.want, want)
		}
	}
	for _, x := range sliceChanges() {
		s := slice()
		x.do(&s)
		if got, want := string(object.PutSlice(s)), bytesOfSlice(s); x.want && got != want || !x.want && got != "" {
			t.Errorf("slice: %s: %q; want %v %q", x.what, got, x.want, want)
		}
	}
	for _, x := range nodeChanges() {
		n := node()
		x.do(&n)
		if got, want := string(object.PutNode(n)), bytesOfNode(n); x.want && got != want || !x.want && got != "" {
			t.Errorf("node: %s: %q; want %v %q", x.what, got, x.want, want)
		}
	}
}

// read is what a call reads of a text, as a text, with the cursor behind it.
type read func(text string) (string, *octets.Cursor)

func readService(text string) (string, *octets.Cursor) {
	c := octets.At([]byte(text))
	return tell(object.ReadService(c)), c
}

func readSlice(text string) (string, *octets.Cursor) {
	c := octets.At([]byte(text))
	return tell(object.ReadSlice(c)), c
}

func readNode(text string) (string, *octets.Cursor) {
	c := octets.At([]byte(text))
	return tell(object.ReadNode(c)), c
}

var (
	noService = tell(object.Service{})
	noSlice   = tell(object.Slice{})
	noNode    = tell(object.Node{})
)

// state holds a cursor's error and place against what they should be.
func state(t *testing.T, what string, c *octets.Cursor, err error, place int) {
	t.Helper()
	if !errors.Is(c.Err(), err) || c.Place() != place {
		t.Fatalf("%q: error %v at %d; want %v at %d", what, c.Err(), c.Place(), err, place)
	}
}

// P13.1: objects of known bytes are read, and the cursor stands behind them.
func TestP13_1_ReadKnown(t *testing.T) {
	for _, x := range []struct {
		text, want string
		read       read
	}{
		{serviceBytes, tell(service()), readService},
		{sliceBytes, tell(slice()), readSlice},
		{nodeBytes, tell(node()), readNode},
		{"\x01n\x00\x00", tell(object.Node{Name: "n"}), readNode},
		{"\x01a\x01b\x01c\x01\x00\x00", tell(object.Slice{Key: api.Key{Space: "a", Name: "b"}, Service: "c", Six: true}), readSlice},
	} {
		for _, behind := range []string{"", "\x00", "more", x.text} {
			got, c := x.read(x.text + behind)
			if got != x.want {
				t.Errorf("%q: %s; want %s", x.text, got, x.want)
			}
			state(t, x.text, c, nil, len(x.text))
		}
	}
}

// P13.1: an object that isn't whole is ErrShort, wherever it ends.
func TestP13_1_ReadShort(t *testing.T) {
	for _, x := range []struct {
		text, none string
		read       read
	}{{serviceBytes, noService, readService}, {sliceBytes, noSlice, readSlice}, {nodeBytes, noNode, readNode}} {
		for n := range len(x.text) {
			got, c := x.read(x.text[:n])
			if got != x.none || !errors.Is(c.Err(), api.ErrShort) || c.Place() > n {
				t.Fatalf("%q: %s, error %v at %d", x.text[:n], got, c.Err(), c.Place())
			}
		}
	}
}

// P13.1: what is wrong in a service's bytes, and where the cursor stays.
func TestP13_1_ReadServiceWrong(t *testing.T) {
	const head = "\x01a\x01b"
	const port = "\x01p\x06\x00\x50\x00\x00"
	const lists = "\x00\x00\x00\x00"
	const flags = "\x00\x00\x00\x00\x00\x00\x00\x00\x00\x00\x00\x00"
	for _, x := range []struct {
		text  string
		err   error
		place int
	}{
		{"", api.ErrShort, 0},
		{"\x00\x01b", api.ErrName, 1},
		{"\x01A\x01b", api.ErrName, 2},
		{"\x10aaaaaaaaaaaaaaaa", api.ErrLong, 0},
		{"\x01a\x00", api.ErrName, 3},
		{"\x01a\x02b-", api.ErrName, 5},
		{"\x01a\x02b", api.ErrShort, 2},
		{head, api.ErrShort, 4},
		{head + "\x00\x04", api.ErrFull, 6},
		{head + "\x00\xff", api.ErrFull, 6},
		{head + "\x00\x01\x05\x00\x00\x00\x00", api.ErrKind, 7},
		{head + "\x00\x01\x04\x00\x00\x00", api.ErrShort, 7},
		{head + "\x00\x00\x04", api.ErrFull, 7},
		{head + "\x00\x00\x00\x04", api.ErrFull, 8},
		{head + "\x00\x00\x00\x00\x05", api.ErrFull, 9},
		{head + "\x00\x00\x00\x00\x01\x04\x0a\x00\x00\x01\x08", api.ErrRange, 15},
		{head + "\x00\x00\x00\x00\x01\x04\x0a\x00\x00\x00\x21", api.ErrRange, 15},
		{head + "\x00\x00\x00\x00\x01\x07", api.ErrKind, 10},
		{head + "\x00" + lists + "\x05", api.ErrFull, 10},
		{head + "\x00" + lists + "\xff" + strings.Repeat(port, 255), api.ErrFull, 10},
		{head + "\x00" + lists + "\x01\x00\x06\x00\x50\x00\x00", api.ErrName, 11},
		{head + "\x00" + lists + "\x01\x10aaaaaaaaaaaaaaaa", api.ErrLong, 10},
		{head + "\x00" + lists + "\x01" + port + "\x02", api.ErrForm, 17},
		{head + "\x00" + lists + "\x01" + port + "\x00\x02", api.ErrForm, 18},
		{head + "\x00" + lists + "\x01" + port + "\x00\x00\x02", api.ErrForm, 19},
		{head + "\x00" + lists + "\x01" + port + "\x00\x00\x01\x40\x00\x00\x00\x00\x00\x00\x01\x00", api.ErrRange, 20},
		{head + "\x00" + lists + "\x01" + port + "\x00\x00\x01\xff\xff\xff\xff\xff\xff\xff\xff\x00", api.ErrRange, 20},
		{head + "\x00" + lists + "\x01" + port + "\x00\x00\x00\x00\x00\x00\x00\x00\x00\x00\x00\x02", api.ErrForm, 28},
		{head + "\x00" + lists + "\x01" + port + flags, nil, 29},
		// All fields can be read, and it isn't right.
		{head + "\x03" + lists + "\x01" + port + flags, api.ErrForm, 29},
		{head + "\xff" + lists + "\x01" + port + flags, api.ErrForm, 29},
		{head + "\x00" + lists + "\x00" + flags, api.ErrForm, 22},
		{head + "\x00" + lists + "\x01\x01p\x05\x00\x50\x00\x00" + flags, api.ErrForm, 29},
		{head + "\x00" + lists + "\x01\x01p\x06\x00\x00\x00\x00" + flags, api.ErrForm, 29},
		{head + "\x00" + lists + "\x01\x01p\x06\x00\x50\x00\x01" + flags, api.ErrForm, 29},
		{head + "\x01" + lists + "\x01\x01p\x06\x00\x50\x00\x01" + flags, nil, 29},
		{head + "\x00" + lists + "\x02" + port + port + flags, api.ErrForm, 36},
		{head + "\x00" + lists + "\x02" + port + "\x01q\x06\x00\x50\x00\x00" + flags, api.ErrForm, 36},
		{head + "\x00" + lists + "\x02" + port + "\x01p\x11\x00\x50\x00\x00" + flags, api.ErrForm, 36},
		{head + "\x00" + lists + "\x02" + port + "\x01q\x11\x00\x50\x00\x00" + flags, nil, 36},
		{head + "\x01\x00\x00\x01\x04\x01\x01\x01\x01\x00\x01" + port + flags, api.ErrForm, 34},
		{head + "\x02\x00\x00\x01\x04\x01\x01\x01\x01\x00\x01" + port + flags, nil, 34},
		{head + "\x00" + lists + "\x01" + port + "\x00\x00\x01\x00\x00\x00\x00\x00\x00\x00\x00\x00", api.ErrForm, 29},
		{head + "\x00" + lists + "\x01" + port + "\x00\x00\x00\x00\x00\x00\x00\x00\x00\x00\x01\x00", api.ErrForm, 29},
		{head + "\x00" + lists + "\x01" + port + "\x00\x00\x01\x00\x00\x01\x00\x00\x00\x00\x01\x00", api.ErrForm, 29},
		{head + "\x00" + lists + "\x01" + port + "\x00\x00\x01\x40\x00\x00\x00\x00\x00\x00\x00\x00", api.ErrForm, 29},
		{head + "\x00" + lists + "\x01" + port + "\x00\x00\x01\x00\x00\x01\x00\x00\x00\x00\x00\x00", nil, 29},
	} {
		got, c := readService(x.text)
		state(t, x.text, c, x.err, x.place)
		if x.err != nil && got != noService || x.err == nil && got == noService {
			t.Errorf("%q: %s", x.text, got)
		}
	}
}

// P13.1: what is wrong in a slice's bytes, and where the cursor stays.
func TestP13_1_ReadSliceWrong(t *testing.T) {
	const head = "\x01a\x01b\x01c"
	const end = "\x04\x0a\x00\x00\x01\x00\x00\x00\x00"
	for _, x := range []struct {
		text  string
		err   error
		place int
	}{
		{"\x01a\x01B\x01c", api.ErrName, 4},
		{"\x01a\x01b\x00", api.ErrName, 5},
		{"\x01a\x01b\x02c-", api.ErrName, 7},
		{"\x01a\x01b\x10cccccccccccccccc", api.ErrLong, 4},
		{head + "\x02", api.ErrForm, 6},
		{head + "\x00\x05", api.ErrFull, 8},
		{head + "\x00\x01\x01P\x06\x00\x50", api.ErrName, 10},
		{head + "\x00\x01\x00\x06\x00\x50", api.ErrName, 9},
		{head + "\x00\x00\x09", api.ErrFull, 9},
		{head + "\x00\x00\xff" + strings.Repeat(end+"\x00", 255), api.ErrFull, 9},
		{head + "\x00\x00\x01\x08", api.ErrKind, 10},
		{head + "\x00\x00\x01\x04\x0a\x00\x00\x01\x10nnnnnnnnnnnnnnnn", api.ErrLong, 14},
		{head + "\x00\x00\x01\x04\x0a\x00\x00\x01\x00\x02", api.ErrForm, 15},
		{head + "\x00\x00\x01\x04\x0a\x00\x00\x01\x00\x00\x03", api.ErrForm, 16},
		{head + "\x00\x00\x01\x04\x0a\x00\x00\x01\x00\x00\x00\xff", api.ErrForm, 17},
		{head + "\x00\x00\x01" + end + "\x04\x01a\x01b\x01c\x01d", api.ErrFull, 19},
		{head + "\x00\x00\x01" + end + "\x01\x00", api.ErrName, 20},
		{head + "\x00\x00\x01" + end + "\x01\x02a-", api.ErrName, 22},
		{head + "\x00\x00\x01" + end + "\x01\x10aaaaaaaaaaaaaaaa", api.ErrLong, 19},
		{head + "\x00\x00\x01" + end + "\x00", nil, 19},
		// All fields can be read, and it isn't right.
		{head + "\x01\x00\x01" + end + "\x00", api.ErrForm, 19},
		{head + "\x00\x00\x01\x04\x0a\x00\x00\x01\x01N\x00\x00\x00\x00", api.ErrForm, 20},
		{head + "\x00\x00\x01" + end + "\x02\x01b\x01a", api.ErrForm, 23},
		{head + "\x00\x00\x01" + end + "\x02\x01a\x01a", api.ErrForm, 23},
		{head + "\x00\x00\x01" + end + "\x02\x01a\x01b", nil, 23},
		{head + "\x00\x01\x01p\x06\x00\x00\x00", api.ErrForm, 14},
		{head + "\x00\x01\x01p\x07\x00\x01\x00", api.ErrForm, 14},
		{head + "\x00\x02\x01p\x06\x00\x01\x01p\x06\x00\x02\x00", api.ErrForm, 19},
		{head + "\x00\x02\x01p\x06\x00\x01\x01q\x06\x00\x01\x00", nil, 19},
		{head + "\x00\x00\x01\x06" + strings.Repeat("\x00", 16) + "\x00\x00\x00\x00\x00", api.ErrForm, 31},
		{head + "\x01\x00\x01\x06" + strings.Repeat("\x00", 16) + "\x00\x00\x00\x00\x00", nil, 31},
	} {
		got, c := readSlice(x.text)
		state(t, x.text, c, x.err, x.place)
		if x.err != nil && got != noSlice || x.err == nil && got == noSlice {
			t.Errorf("%q: %s", x.text, got)
		}
	}
}

// P13.1: what is wrong in a node's bytes, and where the cursor stays.
func TestP13_1_ReadNodeWrong(t *testing.T) {
	for _, x := range []struct {
		text  string
		err   error
		place int
	}{
		{"\x00\x00\x00", api.ErrName, 1},
		{"\x01N\x00\x00", api.ErrName, 2},
		{"\x10nnnnnnnnnnnnnnnn\x00\x00", api.ErrLong, 0},
		{"\x01n\x10zzzzzzzzzzzzzzzz\x00", api.ErrLong, 2},
		{"\x01n\x02z", api.ErrShort, 2},
		{"\x01n\x00\x04", api.ErrFull, 4},
		{"\x01n\x00\x01\x00", api.ErrKind, 5},
		{"\x01n\x00\x01\x04\x00\x00\x00", api.ErrShort, 5},
		{"\x01n\x02z-\x00", api.ErrForm, 6},
		{"\x01n\x02z-\x04", api.ErrFull, 6},
		{"\x01n\x01z\x00", nil, 5},
		{"\x01n\x0fzzzzzzzzzzzzzzz\x00", nil, 19},
	} {
		got, c := readNode(x.text)
		state(t, x.text, c, x.err, x.place)
		if x.err != nil && got != noNode || x.err == nil && got == noNode {
			t.Errorf("%q: %s", x.text, got)
		}
	}
}

// P13.1: a cursor that remembers an error reads nothing, and keeps it; one that stands behind other bytes goes on there.
func TestP13_1_ReadBehind(t *testing.T) {
	for _, x := range []struct {
		text, none, want string
		read             func(c *octets.Cursor) string
	}{
		{serviceBytes, noService, tell(service()), func(c *octets.Cursor) string { return tell(object.ReadService(c)) }},
		{sliceBytes, noSlice, tell(slice()), func(c *octets.Cursor) string { return tell(object.ReadSlice(c)) }},
		{nodeBytes, noNode, tell(node()), func(c *octets.Cursor) string { return tell(object.ReadNode(c)) }},
	} {
		for _, err := range []error{api.ErrStale, api.ErrForm} {
			c := octets.At([]byte("\x07" + x.text + x.text))
			c.Num(1)
			if got := x.read(c); got != x.want {
				t.Errorf("%s; want %s", got, x.want)
			}
			c.Fail(err)
			if got := x.read(c); got != x.none {
				t.Errorf("read behind an error: %s", got)
			}
			state(t, x.text, c, err, 1+len(x.text))
		}
		if got := x.read(nil); got != x.none {
			t.Errorf("read of no cursor: %s", got)
		}
		c := octets.At([]byte(x.text + x.text))
		if one, two := x.read(c), x.read(c); one != x.want || two != x.want || c.End() != nil {
			t.Errorf("two behind each other: %s, %s, %v", one, two, c.End())
		}
	}
}

// spoil is a text with something else in it, or less, or more.
func spoil(m maker, text string) string {
	for range 1 + m.Intn(2) {
		i := m.Intn(len(text))
		switch m.Intn(6) {
		case 0:
			text = text[:i] + string([]byte{byte(m.Intn(256))}) + text[i+1:]
		case 1, 2:
			text = text[:i] + string([]byte{byte(m.Intn(6))}) + text[i+1:]
		case 3:
			text = text[:i] + string([]byte{text[i] + byte(m.Intn(3)-1)}) + text[i+1:]
		case 4:
			text = text[:i] + text[i+1:] + "\x00"
		case 5:
			text = text[:i] + string([]byte{byte(m.Intn(4))}) + text[i:]
		}
	}
	return text
}

// P13.1: of bytes that something was done to, a read answers what the model does, with its error and its place.
func TestP13_1_ReadSpoiled(t *testing.T) {
	m := maker{rand.New(rand.NewSource(131)), 0}
	seen := map[error]int{}
	for range 12000 {
		for _, x := range []struct {
			text string
			read read
			want func(r *reader) string
		}{
			{bytesOfService(m.service()), readService, func(r *reader) string { return tell(r.service()) }},
			{bytesOfSlice(m.slice()), readSlice, func(r *reader) string { return tell(r.slice()) }},
			{bytesOfNode(m.node()), readNode, func(r *reader) string { return tell(r.node()) }},
		} {
			text := spoil(m, x.text)
			r := &reader{text: text}
			want := x.want(r)
			got, c := x.read(text)
			if got != want {
				t.Fatalf("%q: %s; want %s", text, got, want)
			}
			state(t, text, c, r.err, r.place)
			seen[r.err]++
		}
	}
	for _, err := range []error{nil, api.ErrShort, api.ErrLong, api.ErrName, api.ErrForm, api.ErrFull, api.ErrKind, api.ErrRange} {
		if seen[err] < 50 {
			t.Errorf("too few of %v: %v", err, seen)
		}
	}
}

// P13.2: what is right is read as it was put, with the cursor behind it; and put again, it has the same bytes.
func TestP13_2_PutRead(t *testing.T) {
	m := maker{rand.New(rand.NewSource(132)), 0}
	for range 5000 {
		s, l, n := m.service(), m.slice(), m.node()
		sb, lb, nb := object.PutService(s), object.PutSlice(l), object.PutNode(n)
		c := octets.At([]byte(string(sb) + string(lb) + string(nb)))
		s2, l2, n2 := object.ReadService(c), object.ReadSlice(c), object.ReadNode(c)
		if tell(s) != tell(s2) || tell(l) != tell(l2) || tell(n) != tell(n2) || c.End() != nil {
			t.Fatalf("%s %s %s: read as %s %s %s, %v", tell(s), tell(l), tell(n), tell(s2), tell(l2), tell(n2), c.End())
		}
		if string(sb) != bytesOfService(s) || string(lb) != bytesOfSlice(l) || string(nb) != bytesOfNode(n) {
			t.Fatalf("other bytes: %q %q %q", sb, lb, nb)
		}
		if string(object.PutService(s2)) != string(sb) || string(object.PutSlice(l2)) != string(lb) || string(object.PutNode(n2)) != string(nb) {
			t.Fatalf("other bytes again: %q %q %q", sb, lb, nb)
		}
	}
}

// P13.2: so it is of all that the tables of right and wrong call right.
func TestP13_2_PutReadEdges(t *testing.T) {
	for _, x := range serviceChanges() {
		s := service()
		x.do(&s)
		if got, c := readService(string(object.PutService(s))); x.want && (got != tell(s) || c.End() != nil) {
			t.Errorf("service: %s: %s, %v", x.what, got, c.End())
		}
	}
	for _, x := range sliceChanges() {
		s := slice()
		x.do(&s)
		if got, c := readSlice(string(object.PutSlice(s))); x.want && (got != tell(s) || c.End() != nil) {
			t.Errorf("slice: %s: %s, %v", x.what, got, c.End())
		}
	}
	for _, x := range nodeChanges() {
		n := node()
		x.do(&n)
		if got, c := readNode(string(object.PutNode(n))); x.want && (got != tell(n) || c.End() != nil) {
			t.Errorf("node: %s: %s, %v", x.what, got, c.End())
		}
	}
}
