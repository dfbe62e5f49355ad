package maglev_test

import (
	"errors"
	"math/rand"
	"slices"
	"testing"

	"linkboy/addr"
	"linkboy/api"
	"linkboy/maglev"
)

// known is tables that another program made, in another language, from the chapters' words alone.
func known() []maglev.Table {
	both := []api.Point{four(1, 80), four(1, 81), six(1, 80), six(2, 80)}
	ends := []api.Point{
		{Addr: addr.Four(0, 0, 0, 0), Port: 1}, four(1, 80), {Addr: addr.Four(255, 255, 255, 255), Port: 65535},
		{Addr: addr.Six([16]byte{}), Port: 1}, {Addr: addr.Six([16]byte{10, 0, 0, 1}), Port: 80},
		{Addr: addr.Six([16]byte{255, 255, 255, 255, 255, 255, 255, 255, 255, 255, 255, 255, 255, 255, 255, 255}), Port: 65535},
	}
	return []maglev.Table{
		{Size: 2, Backends: row(1), Slots: []int{0, 0}},
		{Size: 2, Backends: trio()[:2], Slots: []int{1, 0}},
		{Size: 2, Backends: trio()[1:], Slots: []int{1, 0}},
		{Size: 3, Backends: trio(), Slots: []int{1, 0, 2}},
		{Size: 5, Backends: trio(), Slots: []int{1, 1, 0, 0, 2}},
		{Size: 7, Backends: trio(), Slots: []int{0, 2, 0, 1, 0, 2, 1}},
		{Size: 7, Backends: trio()[1:], Slots: []int{1, 1, 0, 0, 0, 1, 0}},
		{Size: 11, Backends: trio(), Slots: []int{0, 0, 0, 2, 1, 1, 2, 1, 2, 1, 0}},
		{Size: 13, Backends: trio(), Slots: []int{0, 1, 2, 1, 0, 2, 0, 2, 1, 0, 0, 1, 2}},
		{Size: 5, Backends: both, Slots: []int{3, 1, 0, 0, 2}},
		{Size: 7, Backends: both, Slots: []int{3, 0, 0, 2, 1, 1, 2}},
		{Size: 11, Backends: both, Slots: []int{2, 0, 0, 2, 3, 2, 1, 1, 1, 3, 0}},
		{Size: 17, Backends: both, Slots: []int{1, 0, 1, 1, 3, 0, 2, 2, 2, 3, 0, 0, 3, 2, 3, 0, 1}},
		{Size: 13, Backends: ends, Slots: []int{0, 0, 2, 0, 1, 4, 4, 5, 3, 2, 1, 3, 5}},
		{Size: 23, Backends: row(23), Slots: []int{18, 10, 17, 7, 21, 6, 2, 19, 22, 15, 14, 5, 0, 13, 11, 1, 4, 20, 9, 3, 16, 8, 12}},
		{Size: 29, Backends: row(24), Slots: []int{7, 3, 22, 13, 1, 19, 15, 1, 23, 6, 4, 21, 12, 16, 0, 17, 20, 4, 10, 9, 18, 5, 14, 0, 2, 8, 2, 11, 3}},
		{Size: 251, Backends: row(24), Slots: wide()},
	}
}

// wide is the slots of the greatest table, of as many backends as there may be.
func wide() []int {
	return []int{
		4, 19, 0, 11, 7, 8, 14, 20, 12, 5, 6, 22, 12, 2, 8, 13, 12, 6, 19, 11, 12, 10, 3, 20, 23, 4, 5, 13, 12, 5, 22, 0, 12, 19, 4, 2, 12, 23, 21, 8, 12, 13,
		8, 4, 9, 8, 0, 16, 7, 22, 14, 11, 1, 0, 13, 14, 1, 7, 10, 4, 14, 0, 21, 23, 3, 19, 3, 11, 10, 15, 14, 6, 2, 7, 1, 1, 23, 20, 10, 13, 23, 13, 16, 11,
		23, 1, 4, 2, 5, 22, 15, 5, 11, 23, 2, 6, 1, 7, 0, 20, 8, 16, 2, 18, 20, 18, 15, 8, 22, 2, 19, 4, 22, 3, 14, 19, 15, 16, 1, 5, 0, 10, 5, 20, 14, 5,
		0, 22, 10, 21, 6, 2, 18, 13, 18, 10, 16, 21, 7, 14, 11, 6, 7, 15, 9, 21, 22, 4, 3, 3, 7, 1, 3, 21, 6, 10, 11, 0, 20, 18, 9, 21, 7, 4, 15, 9, 8, 5,
		2, 8, 9, 16, 1, 13, 17, 9, 17, 21, 17, 19, 15, 4, 17, 1, 22, 9, 17, 16, 17, 6, 2, 3, 17, 14, 0, 9, 17, 11, 5, 4, 8, 21, 6, 10, 20, 1, 16, 12, 17, 15,
		9, 19, 20, 13, 23, 18, 0, 18, 17, 12, 19, 18, 10, 7, 22, 16, 6, 2, 8, 5, 9, 3, 10, 3, 3, 7, 23, 14, 15, 13, 9, 21, 18, 19, 16, 11, 15, 20, 18, 23, 6,
	}
}

// P10.1: the tables that are known, of their backends rising, falling, and each twice.
func TestP10_1_Fill(t *testing.T) {
	for _, want := range known() {
		falling := slices.Clone(want.Backends)
		slices.Reverse(falling)
		for _, list := range [][]api.Point{want.Backends, falling, slices.Concat(falling, want.Backends)} {
			if got, err := maglev.Fill(list, want.Size); err != nil || !alike(got, want) {
				t.Fatalf("of %v: %v, %v; want %v", list, got, err, want)
			}
		}
	}
}

// P10.1: in every size the table of each number of backends there may be, turn by turn by each one's own order.
func TestP10_1_FillByItsWords(t *testing.T) {
	chance := rand.New(rand.NewSource(102))
	for _, size := range primes() {
		for n := 1; n <= min(api.MaxBackends, size); n++ {
			list := mixed(chance, few(chance, n))
			want := modelled(t, list, size)
			if got, err := maglev.Fill(list, size); err != nil || !alike(got, want) {
				t.Fatalf("of %v in %d: %v, %v; want %v", list, size, got, err, want)
			}
		}
	}
}

// P10.1: the chapter's example: all places are the only backend's, however often it is listed.
func TestP10_1_FillOfOne(t *testing.T) {
	for _, size := range primes() {
		for _, p := range many() {
			want := maglev.Table{Size: size, Backends: []api.Point{p}, Slots: make([]int, size)}
			for _, list := range [][]api.Point{{p}, {p, p}, slices.Repeat([]api.Point{p}, 1000)} {
				if got, err := maglev.Fill(list, size); err != nil || !alike(got, want) {
					t.Fatalf("of %v in %d: %v, %v", p, size, got, err)
				}
			}
		}
	}
}

// unfilled holds that Fill tells an error and no table.
func unfilled(t *testing.T, list []api.Point, size int, want error) {
	t.Helper()
	got, err := maglev.Fill(list, size)
	if !errors.Is(err, want) || got.Size != 0 || got.Backends != nil || got.Slots != nil {
		t.Fatalf("of %d points in %d: %v, %v; want %v", len(list), size, got, err, want)
	}
}

// P10.1: ErrRange of every size that isn't a prime from 2 to 251, whatever else there would be to say.
func TestP10_1_FillSizes(t *testing.T) {
	sizes := beyond()
	for n := -300; n <= 600; n++ {
		sizes = append(sizes, n)
	}
	for _, size := range sizes {
		if isSize(size) {
			if got, err := maglev.Fill(row(1), size); err != nil || got.Size != size || len(got.Slots) != size {
				t.Fatalf("in %d: %v, %v", size, got, err)
			}
			continue
		}
		for _, list := range [][]api.Point{nil, {}, row(1), trio(), {{}}, row(25), append(row(25), api.Point{})} {
			unfilled(t, list, size, api.ErrRange)
		}
	}
}

// P10.1: ErrAddress of what is no point, wherever it stands, even where there are too many.
func TestP10_1_FillAddresses(t *testing.T) {
	wrong := []api.Point{{}, four(1, 0), four(1, -1), four(1, 65536), four(1, 65536+80), six(1, 0), six(1, -80), six(1, 65536), {Addr: addr.Four(10, 0, 0, 1)}}
	for i := 4; i < 16; i++ {
		p := four(1, 80)
		p.Addr.B[i] = 1
		wrong = append(wrong, p)
	}
	for _, p := range wrong {
		unfilled(t, []api.Point{p}, 7, api.ErrAddress)
		for _, list := range [][]api.Point{trio(), row(24), row(25), row(200)} {
			for _, at := range []int{0, 1, len(list) / 2, len(list)} {
				for _, size := range []int{2, 7, 251} {
					unfilled(t, slices.Insert(slices.Clone(list), at, p), size, api.ErrAddress)
				}
			}
		}
	}
}

// P10.1: ErrNone of no backends.
func TestP10_1_FillOfNone(t *testing.T) {
	for _, size := range primes() {
		unfilled(t, nil, size, api.ErrNone)
		unfilled(t, []api.Point{}, size, api.ErrNone)
	}
}

// P10.1: ErrFull of more than 24 unlike ones, or more than places; those that are alike count once.
func TestP10_1_FillOfTooMany(t *testing.T) {
	chance := rand.New(rand.NewSource(103))
	for _, size := range primes() {
		most := min(24, size)
		for n := 1; n <= 34; n++ {
			list := few(chance, n)
			twice := slices.Concat(list, list)
			if n > most {
				unfilled(t, list, size, api.ErrFull)
				unfilled(t, twice, size, api.ErrFull)
				continue
			}
			if got, err := maglev.Fill(twice, size); err != nil || len(got.Backends) != n {
				t.Fatalf("of %d points twice in %d: %v, %v", n, size, got, err)
			}
		}
		unfilled(t, row(250), size, api.ErrFull)
	}
}

// P10.1: Fill doesn't write to its list, or to the room behind it, or read that; what becomes of the list changes no table.
func TestP10_1_FillLeavesItsList(t *testing.T) {
	room := []api.Point{four(3, 80), four(1, 80), four(3, 80), four(2, 80), four(9, 80), {}, four(8, 80)}
	whole := slices.Clone(room)
	got := made(t, room[:4], 7)
	if !slices.Equal(room, whole) {
		t.Fatalf("the list was written to: %v", room)
	}
	clear(room)
	if want := made(t, trio(), 7); !alike(got, want) {
		t.Fatalf("%v; want %v", got, want)
	}
	sorted := trio()
	got = made(t, sorted, 7)
	sorted[0] = four(77, 77)
	if !slices.Equal(got.Backends, trio()) {
		t.Fatalf("the backends are the list itself: %v", got.Backends)
	}
}

// P10.1: each table is the caller's: writing over it, and over the room behind its lists, changes no other one.
func TestP10_1_FillApart(t *testing.T) {
	one, two := made(t, trio(), 7), made(t, trio(), 7)
	clear(one.Backends[:cap(one.Backends)])
	clear(one.Slots[:cap(one.Slots)])
	want := maglev.Table{Size: 7, Backends: trio(), Slots: []int{0, 2, 0, 1, 0, 2, 1}}
	if !alike(two, want) || !alike(made(t, trio(), 7), want) {
		t.Fatalf("a table was written over, and now: %v, %v", two, made(t, trio(), 7))
	}
}

// P10.1: what Fill makes is right, in every size.
func TestP10_1_Right(t *testing.T) {
	for _, x := range append(known(), every(t)...) {
		before := copied(x)
		if !maglev.Right(x) || !maglev.Right(copied(x)) || !alike(x, before) {
			t.Fatalf("%v isn't right, or no longer what it was", before)
		}
	}
}

// P10.1: not right with just one thing else: the size, a slot, a backend, their order, or how many there are.
func TestP10_1_RightButForOneThing(t *testing.T) {
	changes := []func(x *maglev.Table){
		func(x *maglev.Table) { x.Size++ },
		func(x *maglev.Table) { x.Size = 0 },
		func(x *maglev.Table) { x.Size = -x.Size },
		func(x *maglev.Table) { x.Slots = nil },
		func(x *maglev.Table) { x.Slots = x.Slots[1:] },
		func(x *maglev.Table) { x.Slots = x.Slots[:len(x.Slots)-1] },
		func(x *maglev.Table) { x.Slots = append(x.Slots, 0) },
		func(x *maglev.Table) { x.Backends = nil },
		func(x *maglev.Table) { x.Backends = x.Backends[1:] },
		func(x *maglev.Table) { x.Backends = x.Backends[:len(x.Backends)-1] },
		func(x *maglev.Table) { x.Backends = append(x.Backends, api.Point{}) },
		func(x *maglev.Table) { x.Backends = append(x.Backends, x.Backends[len(x.Backends)-1]) },
		func(x *maglev.Table) { x.Backends = slices.Insert(x.Backends, 0, x.Backends[0]) },
		func(x *maglev.Table) { x.Backends[0].Port = 0 },
		func(x *maglev.Table) { x.Backends[0].Addr = api.Addr{B: [16]byte{4: 1}} },
	}
	for _, x := range every(t) {
		for i, change := range changes {
			if other := changed(x, change); maglev.Right(other) {
				t.Fatalf("change %d of %v is right: %v", i, x, other)
			}
		}
		for place := range x.Slots {
			for _, who := range []int{x.Slots[place] + 1, x.Slots[place] - 1, -1, len(x.Backends)} {
				if other := changed(x, func(x *maglev.Table) { x.Slots[place] = who }); who != x.Slots[place] && maglev.Right(other) {
					t.Fatalf("place %d for %d of %v is right", place, who, x)
				}
			}
		}
	}
	for _, x := range append(mute(), patchy()) {
		if maglev.Right(x) {
			t.Fatalf("%v is right", x)
		}
	}
}

// P10.1: not right with two backends that have changed their places, be their slots renumbered or not, nor with two that have changed their slots.
func TestP10_1_RightInOrder(t *testing.T) {
	for _, x := range every(t) {
		if len(x.Backends) < 2 {
			continue
		}
		last := len(x.Backends) - 1
		turned := changed(x, func(x *maglev.Table) {
			x.Backends[0], x.Backends[last] = x.Backends[last], x.Backends[0]
		})
		swapped := changed(x, func(x *maglev.Table) {
			for place, who := range x.Slots {
				switch who {
				case 0:
					x.Slots[place] = last
				case last:
					x.Slots[place] = 0
				}
			}
		})
		renumbered := maglev.Table{Size: x.Size, Backends: turned.Backends, Slots: swapped.Slots}
		for _, other := range []maglev.Table{turned, swapped, renumbered} {
			if maglev.Right(other) {
				t.Fatalf("of %v: %v is right", x, other)
			}
		}
	}
}

// P10.1: not right with more backends than there may be, be the places as even as they are.
func TestP10_1_RightOfTooMany(t *testing.T) {
	for _, n := range []int{25, 26, 100} {
		x := maglev.Table{Size: 251, Backends: row(n)}
		for place := range x.Size {
			x.Slots = append(x.Slots, place%n)
		}
		if maglev.Right(x) {
			t.Fatalf("of %d backends: right", n)
		}
	}
	if maglev.Right(maglev.Table{Size: 2, Backends: trio(), Slots: []int{1, 0}}) {
		t.Fatal("three backends of two places: right")
	}
}
