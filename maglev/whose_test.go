package maglev_test

import (
	"bytes"
	"math/big"
	"math/rand"
	"slices"
	"strconv"
	"testing"

	"linkboy/addr"
	"linkboy/api"
	"linkboy/hash"
	"linkboy/maglev"
)

// seq is the bytes 0 to n - 1.
func seq(n int) []byte {
	b := make([]byte, n)
	for i := range b {
		b[i] = byte(i)
	}
	return b
}

// flow is the tuple of a client's port that talks to a front.
func flow(proto, port int) []byte {
	return hash.Tuple(proto, four(9, port), api.Point{Addr: addr.Four(10, 96, 0, 1), Port: 80})
}

// tuples is tuples of every kind: none, short and long ones, those of flows, and some by chance.
func tuples() [][]byte {
	list := [][]byte{nil, {}, {0}, {0, 0}, []byte("a"), []byte("foobar"), seq(256), bytes.Repeat([]byte{255}, 1000)}
	for port := 1000; port < 1020; port++ {
		list = append(list, flow(api.TCP, port), flow(api.UDP, port))
	}
	chance := rand.New(rand.NewSource(104))
	for range 20 {
		b := make([]byte, chance.Intn(50))
		chance.Read(b)
		list = append(list, b)
	}
	return list
}

// placeOf is the place of a tuple by layer 7's hash by the seed 3, as a number without bounds.
func placeOf(tuple []byte, size int) int {
	n := new(big.Int).SetUint64(hash.Of(3, tuple))
	return int(n.Mod(n, big.NewInt(int64(size))).Int64())
}

// has tells whether a slot's number is one of so many backends.
func has(who, n int) bool { return 0 <= who && who <= n-1 }

// P10.1: whose known tuples are, in a small table and in the greatest.
func TestP10_1_Of(t *testing.T) {
	for _, x := range []struct {
		tuple       []byte
		small, wide int // its backend in the table of 7 places, and in that of 251
	}{
		{flow(api.TCP, 1000), 1, 1}, {flow(api.TCP, 1001), 0, 0}, {flow(api.TCP, 1002), 0, 0}, {flow(api.TCP, 1003), 0, 2},
		{flow(api.UDP, 1000), 0, 2}, {flow(api.UDP, 1001), 1, 1}, {flow(api.UDP, 1002), 2, 0}, {flow(api.UDP, 1003), 1, 0},
		{nil, 0, 2}, {[]byte{}, 0, 2}, {[]byte("a"), 0, 2}, {[]byte("b"), 2, 2}, {[]byte("foobar"), 1, 0}, {[]byte{0}, 0, 2}, {seq(256), 2, 0},
	} {
		if got, is := made(t, trio(), 7).Of(x.tuple); !is || got != trio()[x.small] {
			t.Fatalf("of %x in 7: %v, %t; want %v", x.tuple, got, is, trio()[x.small])
		}
		if got, is := made(t, trio(), 251).Of(x.tuple); !is || got != trio()[x.wide] {
			t.Fatalf("of %x in 251: %v, %t; want %v", x.tuple, got, is, trio()[x.wide])
		}
	}
}

// P10.1: in every table the backend of the place that the hash by the seed 3 tells.
func TestP10_1_OfByItsWords(t *testing.T) {
	for _, x := range every(t) {
		before := copied(x)
		for _, tuple := range tuples() {
			bytesBefore := slices.Clone(tuple)
			want := x.Backends[x.Slots[placeOf(tuple, x.Size)]]
			if got, is := x.Of(tuple); !is || got != want {
				t.Fatalf("of %x in %v: %v, %t; want %v", tuple, x, got, is, want)
			}
			if !bytes.Equal(tuple, bytesBefore) {
				t.Fatalf("the tuple was written to: %x", tuple)
			}
		}
		if !alike(x, before) {
			t.Fatalf("the table was written to: %v", x)
		}
	}
}

// P10.1: no backend of a table that can't tell one, or of a place without one; of other places it is told, be the table right or not.
func TestP10_1_OfNobody(t *testing.T) {
	for _, tuple := range tuples() {
		for _, x := range mute() {
			if got, is := x.Of(tuple); is || got != (api.Point{}) {
				t.Fatalf("of %x in %v: %v, %t", tuple, x, got, is)
			}
		}
		x := patchy()
		var want api.Point
		who := x.Slots[placeOf(tuple, 7)]
		if has(who, 4) {
			want = x.Backends[who]
		}
		if got, is := x.Of(tuple); is != has(who, 4) || got != want {
			t.Fatalf("of %x: %v, %t; want %v", tuple, got, is, want)
		}
	}
}

// P10.1: the backends of all places, by their numbers; none beside them.
func TestP10_1_At(t *testing.T) {
	for _, x := range append(known(), every(t)...) {
		before := copied(x)
		for place, who := range x.Slots {
			if got, is := x.At(place); !is || got != x.Backends[who] {
				t.Fatalf("place %d of %v: %v, %t; want %v", place, x, got, is, x.Backends[who])
			}
		}
		for _, place := range append(beyond(), -1, -2, -x.Size, x.Size, x.Size+1, 2*x.Size) {
			if got, is := x.At(place); is || got != (api.Point{}) {
				t.Fatalf("place %d of %v: %v, %t", place, x, got, is)
			}
		}
		if !alike(x, before) {
			t.Fatalf("the table was written to: %v", x)
		}
	}
}

// P10.1: no backend of a table that can't tell one, or of a slot whose number is none's; of the slots beside it it is told.
func TestP10_1_AtNobody(t *testing.T) {
	for _, x := range mute() {
		for _, place := range append(beyond(), -1, 0, 1, 2, 3, 6, 7, x.Size-1, x.Size) {
			if got, is := x.At(place); is || got != (api.Point{}) {
				t.Fatalf("place %d of %v: %v, %t", place, x, got, is)
			}
		}
	}
	for _, who := range append(beyond(), -2, -1, 0, 1, 2, 3, 4, 6) {
		for place := range 7 {
			x := changed(made(t, trio(), 7), func(x *maglev.Table) { x.Slots[place] = who })
			for i := range 7 {
				var want api.Point
				if has(x.Slots[i], 3) {
					want = trio()[x.Slots[i]]
				}
				if got, is := x.At(i); is != has(x.Slots[i], 3) || got != want {
					t.Fatalf("place %d of %v: %v, %t; want %v", i, x, got, is, want)
				}
			}
		}
	}
	for _, size := range primes() {
		if got, is := (maglev.Table{Size: size, Slots: make([]int, size)}).At(0); is || got != (api.Point{}) {
			t.Fatalf("of no backends in %d: %v, %t", size, got, is)
		}
	}
}

// P10.1: the places of known tables, counted, and those of every table against looking for each backend's.
func TestP10_1_Counts(t *testing.T) {
	for _, x := range []struct {
		list []api.Point
		size int
		want []int
	}{
		{row(1), 2, []int{2}}, {row(1), 251, []int{251}}, {trio(), 3, []int{1, 1, 1}}, {trio(), 5, []int{2, 2, 1}}, {trio(), 7, []int{3, 2, 2}},
		{trio(), 251, []int{84, 84, 83}}, {row(23), 23, slices.Repeat([]int{1}, 23)}, {row(24), 29, append(slices.Repeat([]int{2}, 5), slices.Repeat([]int{1}, 19)...)},
		{row(24), 251, append(slices.Repeat([]int{11}, 11), slices.Repeat([]int{10}, 13)...)},
	} {
		if got := made(t, x.list, x.size).Counts(); !slices.Equal(got, x.want) {
			t.Fatalf("of %v in %d: %v; want %v", x.list, x.size, got, x.want)
		}
	}
	for _, x := range every(t) {
		before := copied(x)
		var want []int
		for who := range x.Backends {
			others := slices.DeleteFunc(slices.Clone(x.Slots), func(n int) bool { return n == who })
			want = append(want, len(x.Slots)-len(others))
		}
		if got := x.Counts(); !slices.Equal(got, want) || !alike(x, before) {
			t.Fatalf("%v: %v; want %v", before, got, want)
		}
	}
}

// P10.1: slots without a backend aren't counted, a backend without a slot has none, and a double has its own; all slots count, whatever the size says.
func TestP10_1_CountsOfWrong(t *testing.T) {
	for _, x := range []struct {
		of   maglev.Table
		want []int
	}{
		{maglev.Table{}, nil},
		{maglev.Table{Size: 7}, nil},
		{maglev.Table{Size: 7, Slots: make([]int, 7)}, nil},
		{maglev.Table{Size: 7, Backends: trio()}, []int{0, 0, 0}},
		{maglev.Table{Size: 7, Backends: trio(), Slots: []int{3, -1, 3, -1, 4, 3, -2}}, []int{0, 0, 0}},
		{maglev.Table{Size: 7, Backends: trio(), Slots: []int{2, 2, 3, -1, 0, 2, 7}}, []int{1, 0, 3}},
		{maglev.Table{Size: 8, Backends: trio(), Slots: []int{2, 2, 1, 0}}, []int{1, 1, 2}},
		{maglev.Table{Size: 3, Backends: trio(), Slots: []int{0, 1, 2, 2, 2, 1}}, []int{1, 2, 3}},
		{patchy(), []int{1, 0, 1, 1}},
	} {
		if got := x.of.Counts(); !slices.Equal(got, x.want) {
			t.Fatalf("%v: %v; want %v", x.of, got, x.want)
		}
	}
	for _, who := range beyond() {
		x := maglev.Table{Size: 3, Backends: trio(), Slots: []int{0, who, 2}}
		if got := x.Counts(); !slices.Equal(got, []int{1, 0, 1}) {
			t.Fatalf("%v: %v", x, got)
		}
	}
}

// P10.1: each list of counts is the caller's: writing over it, and over the room behind it, changes nothing else.
func TestP10_1_CountsApart(t *testing.T) {
	x := made(t, trio(), 7)
	one, two := x.Counts(), x.Counts()
	clear(one[:cap(one)])
	if want := []int{3, 2, 2}; !slices.Equal(two, want) || !slices.Equal(x.Counts(), want) || !maglev.Right(x) {
		t.Fatalf("a list was written over, and now: %v, %v; %v", two, x.Counts(), x)
	}
}

// movedBy is what Moved must tell, place by place of which both have slots.
func movedBy(a, b maglev.Table) int {
	moved := 0
	for place := 0; place < len(a.Slots) && place < len(b.Slots); place++ {
		one, isOne := a.At(place)
		other, isOther := b.At(place)
		if isOne && isOther && one != other {
			moved++
		}
	}
	return moved
}

// P10.1: how many places move when one of three backends goes, in known tables.
func TestP10_1_Moved(t *testing.T) {
	for size, want := range map[int][]int{7: {3, 2, 3}, 11: {5, 4, 3}, 251: {85, 90, 86}} {
		whole := made(t, trio(), size)
		for gone := range want {
			less := made(t, slices.Delete(trio(), gone, gone+1), size)
			if there, back := whole.Moved(less), less.Moved(whole); there != want[gone] || back != want[gone] {
				t.Fatalf("without %d in %d: %d, and back %d; want %d", gone, size, there, back, want[gone])
			}
		}
		if got := whole.Moved(copied(whole)); got != 0 {
			t.Fatalf("to itself in %d: %d", size, got)
		}
	}
	if there, back := made(t, trio(), 7).Moved(made(t, trio(), 11)), made(t, trio(), 11).Moved(made(t, trio(), 7)); there != 5 || back != 5 {
		t.Fatalf("from 7 to 11: %d, and back %d; want 5", there, back)
	}
}

// P10.1: Moved holds the backends against each other, not their numbers.
func TestP10_1_MovedBackends(t *testing.T) {
	x := maglev.Table{Size: 3, Backends: trio(), Slots: []int{0, 1, 2}}
	other := maglev.Table{Size: 3, Backends: []api.Point{four(3, 80), four(1, 80), four(2, 80)}, Slots: []int{1, 2, 0}}
	if there, back := x.Moved(other), other.Moved(x); there != 0 || back != 0 {
		t.Fatalf("the same backends by other numbers: %d, and back %d", there, back)
	}
	other.Slots = []int{0, 1, 2}
	if there, back := x.Moved(other), other.Moved(x); there != 3 || back != 3 {
		t.Fatalf("other backends by the same numbers: %d, and back %d; want 3", there, back)
	}
	for i, near := range []api.Point{four(1, 81), six(1, 80), {Addr: addr.Six([16]byte{10, 0, 0, 1}), Port: 80}} {
		other := changed(x, func(x *maglev.Table) { x.Backends[0] = near })
		if there, back := x.Moved(other), other.Moved(x); there != 1 || back != 1 {
			t.Fatalf("near one %d: %d, and back %d; want 1", i, there, back)
		}
	}
}

// P10.1: places of which At tells no backend in one of both don't count.
func TestP10_1_MovedNobody(t *testing.T) {
	whole := made(t, trio(), 7)
	others := made(t, []api.Point{six(1, 80), six(2, 80)}, 7)
	for _, x := range mute() {
		for _, o := range append(mute(), whole, others) {
			if there, back := x.Moved(o), o.Moved(x); there != 0 || back != 0 {
				t.Fatalf("from %v to %v: %d, and back %d", x, o, there, back)
			}
		}
	}
	if there, back := whole.Moved(others), others.Moved(whole); there != 7 || back != 7 {
		t.Fatalf("to all others: %d, and back %d; want 7", there, back)
	}
	for _, who := range append(beyond(), -1, 2, 3) {
		patched := changed(others, func(x *maglev.Table) { x.Slots[3] = who })
		if there, back := whole.Moved(patched), patched.Moved(whole); there != 6 || back != 6 {
			t.Fatalf("with %d at a place: %d, and back %d; want 6", who, there, back)
		}
	}
	if there, back := whole.Moved(patchy()), patchy().Moved(whole); there != 3 || back != 3 {
		t.Fatalf("of three places: %d, and back %d; want 3", there, back)
	}
}

// P10.1: from every table to others, of its size and of other ones, place by place; neither is written to.
func TestP10_1_MovedByItsWords(t *testing.T) {
	list := append(every(t), patchy())
	chance := rand.New(rand.NewSource(105))
	for _, x := range list {
		for range 20 {
			o := list[chance.Intn(len(list))]
			one, two := copied(x), copied(o)
			if got, want := x.Moved(o), movedBy(x, o); got != want || !alike(x, one) || !alike(o, two) {
				t.Fatalf("from %v to %v: %d; want %d", one, two, got, want)
			}
		}
	}
}

// P10.1: the same are those whose fields all are; be they right or not.
func TestP10_1_Same(t *testing.T) {
	for _, x := range slices.Concat(known(), every(t), mute(), []maglev.Table{patchy()}) {
		other := copied(x)
		if !maglev.Same(x, x) || !maglev.Same(x, other) || !maglev.Same(other, x) || !alike(x, other) {
			t.Fatalf("%v isn't the same as its copy", x)
		}
	}
	if !maglev.Same(maglev.Table{}, maglev.Table{Backends: []api.Point{}, Slots: []int{}}) {
		t.Fatal("no backends aren't the same as none")
	}
	short := maglev.Table{Size: 7, Backends: make([]api.Point, 0, 3), Slots: make([]int, 0, 9)}
	if !maglev.Same(maglev.Table{Size: 7}, short) || !maglev.Same(short, maglev.Table{Size: 7}) {
		t.Fatal("the room behind a list counts")
	}
}

// P10.1: not the same with just one thing else, at whatever place; an order counts as well.
func TestP10_1_SameButForOneThing(t *testing.T) {
	changes := map[string]func(x *maglev.Table){
		"size":          func(x *maglev.Table) { x.Size++ },
		"size below 0":  func(x *maglev.Table) { x.Size = -x.Size },
		"no slots":      func(x *maglev.Table) { x.Slots = nil },
		"fewer slots":   func(x *maglev.Table) { x.Slots = x.Slots[:6] },
		"more slots":    func(x *maglev.Table) { x.Slots = append(x.Slots, 0) },
		"no backends":   func(x *maglev.Table) { x.Backends = nil },
		"less backends": func(x *maglev.Table) { x.Backends = x.Backends[:2] },
		"more backends": func(x *maglev.Table) { x.Backends = append(x.Backends, four(4, 80)) },
		"another order": func(x *maglev.Table) { x.Backends[0], x.Backends[1] = x.Backends[1], x.Backends[0] },
		"slots turned":  func(x *maglev.Table) { x.Slots[0], x.Slots[1] = x.Slots[1], x.Slots[0] },
	}
	for place := range 7 {
		changes["slot "+strconv.Itoa(place)] = func(x *maglev.Table) { x.Slots[place] += 3 }
	}
	for who := range 3 {
		of := " of backend " + strconv.Itoa(who)
		changes["port"+of] = func(x *maglev.Table) { x.Backends[who].Port++ }
		changes["kind"+of] = func(x *maglev.Table) { x.Backends[who].Addr.Six = true }
		changes["last byte"+of] = func(x *maglev.Table) { x.Backends[who].Addr.B[15]++ }
	}
	whole := made(t, trio(), 7)
	for name, change := range changes {
		if other := changed(whole, change); maglev.Same(whole, other) || maglev.Same(other, whole) {
			t.Fatalf("%s: %v is the same as %v", name, other, whole)
		}
	}
}
