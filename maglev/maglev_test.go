package maglev_test

import (
	"bytes"
	"math"
	"math/rand"
	"slices"
	"testing"

	"linkboy/addr"
	"linkboy/api"
	"linkboy/maglev"
	"linkboy/ports"
	"linkboy/stride"
)

// primes is all primes from 2 to 251, the sizes that a table may have.
func primes() []int {
	return []int{
		2, 3, 5, 7, 11, 13, 17, 19, 23, 29, 31, 37, 41, 43, 47, 53, 59, 61, 67, 71, 73, 79, 83, 89, 97, 101, 103,
		107, 109, 113, 127, 131, 137, 139, 149, 151, 157, 163, 167, 173, 179, 181, 191, 193, 197, 199, 211, 223, 227, 229, 233, 239, 241, 251,
	}
}

// isSize tells whether a table may have so many places.
func isSize(n int) bool { return slices.Contains(primes(), n) }

// beyond is numbers far from every place, whose low bits are those of small ones among them.
func beyond() []int {
	return []int{
		math.MinInt, math.MinInt + 1, math.MinInt + 7, -1 << 62, -1<<32 + 7, -1 << 31, -65536, -1000,
		1000, 10007, 65537, 1<<31 - 1, 1 << 31, 1<<32 + 7, 1 << 62, math.MaxInt - 7, math.MaxInt - 1, math.MaxInt,
	}
}

// four is a point whose address has four bytes.
func four(last byte, port int) api.Point {
	return api.Point{Addr: addr.Four(10, 0, 0, last), Port: port}
}

// six is a point whose address has sixteen bytes.
func six(last byte, port int) api.Point {
	return api.Point{Addr: addr.Six([16]byte{0: 0x20, 1: 1, 2: 0x0d, 3: 0xb8, 15: last}), Port: port}
}

// row is points of four bytes, of the numbers from 0 on, rising.
func row(n int) []api.Point {
	var list []api.Point
	for i := range n {
		list = append(list, four(byte(i), 80))
	}
	return list
}

// trio is three backends, rising.
func trio() []api.Point { return []api.Point{four(1, 80), four(2, 80), four(3, 80)} }

// many is points of both kinds, with the least and the greatest ones, and such that are alike but for the kind of address or the port; none twice.
func many() []api.Point {
	full := [16]byte(bytes.Repeat([]byte{255}, 16))
	list := []api.Point{
		{Addr: addr.Four(0, 0, 0, 0), Port: 1}, {Addr: addr.Four(255, 255, 255, 255), Port: 65535},
		{Addr: addr.Six([16]byte{}), Port: 1}, {Addr: addr.Six(full), Port: 65535},
		{Addr: addr.Six([16]byte{10, 0, 0, 1}), Port: 80}, {Addr: addr.Six([16]byte{10, 0, 0, 1}), Port: 336},
	}
	for n := byte(1); n < 10; n++ {
		list = append(list, four(n, 80), four(n, 336), six(n, 80), six(n, 81))
	}
	return list
}

// few is so many of the many points, by chance.
func few(chance *rand.Rand, n int) []api.Point {
	list := many()
	chance.Shuffle(len(list), func(i, j int) { list[i], list[j] = list[j], list[i] })
	return list[:n]
}

// mixed is a list in another order, with some of its points twice or more often.
func mixed(chance *rand.Rand, list []api.Point) []api.Point {
	all := slices.Clone(list)
	for range chance.Intn(5) {
		all = append(all, list[chance.Intn(len(list))])
	}
	chance.Shuffle(len(all), func(i, j int) { all[i], all[j] = all[j], all[i] })
	return all
}

// rising is points in their order, each once, by taking the least one again and again.
func rising(list []api.Point) []api.Point {
	var sorted []api.Point
	left := slices.Clone(list)
	for len(left) > 0 {
		least := slices.MinFunc(left, ports.Compare)
		sorted = append(sorted, least)
		left = slices.DeleteFunc(left, func(p api.Point) bool { return p == least })
	}
	return sorted
}

// modelled is what Fill must tell: turn by turn each backend looks through its own order from the first place on.
func modelled(t *testing.T, list []api.Point, size int) maglev.Table {
	t.Helper()
	backends, whose := rising(list), map[int]int{}
	for len(whose) < size {
		for who, b := range backends {
			order, err := stride.Of(ports.Put(b), size)
			if err != nil {
				t.Fatal(err)
			}
			free := slices.IndexFunc(order.All(), func(place int) bool { _, taken := whose[place]; return !taken })
			if free >= 0 {
				whose[order.All()[free]] = who
			}
		}
	}
	slots := make([]int, size)
	for place, who := range whose {
		slots[place] = who
	}
	return maglev.Table{Size: size, Backends: backends, Slots: slots}
}

// made is a table that Fill makes.
func made(t *testing.T, list []api.Point, size int) maglev.Table {
	t.Helper()
	x, err := maglev.Fill(list, size)
	if err != nil {
		t.Fatalf("of %v in %d: %v", list, size, err)
	}
	return x
}

// every is tables of every size, of one backend, two, as many as there may be, and some between.
func every(t *testing.T) []maglev.Table {
	t.Helper()
	var list []maglev.Table
	chance := rand.New(rand.NewSource(101))
	for _, size := range primes() {
		most := min(api.MaxBackends, size)
		for _, n := range []int{1, 2, 1 + chance.Intn(most), 1 + chance.Intn(most), most} {
			list = append(list, made(t, mixed(chance, few(chance, n)), size))
		}
	}
	return list
}

// copied is a table that shares nothing with another one.
func copied(x maglev.Table) maglev.Table {
	return maglev.Table{Size: x.Size, Backends: slices.Clone(x.Backends), Slots: slices.Clone(x.Slots)}
}

// alike tells whether two tables have the same fields.
func alike(a, b maglev.Table) bool {
	return a.Size == b.Size && slices.Equal(a.Backends, b.Backends) && slices.Equal(a.Slots, b.Slots)
}

// changed is a table with something else about it.
func changed(x maglev.Table, change func(x *maglev.Table)) maglev.Table {
	other := copied(x)
	change(&other)
	return other
}

// mute is tables that can tell no place: of sizes that none has, or with fewer or more slots than places.
func mute() []maglev.Table {
	list := []maglev.Table{{}, {Size: 7}, {Size: 7, Backends: trio()}, {Backends: trio()}}
	for _, n := range []int{0, 1, 4, 6, 8, 9, 15, 25, 249, 250, 252, 253, 255, 256, 257, 263, 1009} {
		list = append(list, maglev.Table{Size: n, Backends: trio(), Slots: make([]int, n)})
	}
	for _, size := range primes() {
		for _, n := range []int{0, 1, size - 1, size + 1, 2 * size} {
			if n != size {
				list = append(list, maglev.Table{Size: size, Backends: trio(), Slots: make([]int, n)})
			}
		}
	}
	for _, size := range append(beyond(), -1, -2, -7, -251, 257, 263) {
		list = append(list, maglev.Table{Size: size, Backends: trio(), Slots: make([]int, 7)}, maglev.Table{Size: size, Backends: trio()})
	}
	return list
}

// patchy is a table of 7 places that Fill doesn't make: just the places 1, 4 and 5 have backends, of which the first is no point, and the last another one's double.
func patchy() maglev.Table {
	return maglev.Table{
		Size:     7,
		Backends: []api.Point{{}, four(9, 80), four(2, 80), four(9, 80)},
		Slots:    []int{-1, 2, 4, math.MaxInt, 3, 0, math.MinInt},
	}
}
