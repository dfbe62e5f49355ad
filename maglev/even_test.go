package maglev_test

import (
	"math/rand"
	"slices"
	"testing"

	"linkboy/api"
	"linkboy/maglev"
)

// orders is all orders of a short list.
func orders(list []api.Point) [][]api.Point {
	if len(list) < 2 {
		return [][]api.Point{list}
	}
	var all [][]api.Point
	for i, first := range list {
		for _, rest := range orders(slices.Delete(slices.Clone(list), i, i+1)) {
			all = append(all, append([]api.Point{first}, rest...))
		}
	}
	return all
}

// set is points, some of their orders (of few ones all), and a size.
type set struct {
	list   []api.Point
	orders [][]api.Point
	size   int
}

// sets is sets of every size and of every number of points that there may be.
func sets() []set {
	var list []set
	chance := rand.New(rand.NewSource(106))
	for _, size := range primes() {
		for n := 1; n <= min(api.MaxBackends, size); n++ {
			x := set{list: few(chance, n), size: size}
			if n < 4 {
				x.orders = orders(x.list)
			}
			x.orders = append(x.orders, mixed(chance, x.list), mixed(chance, x.list), slices.Concat(x.list, x.list, x.list))
			list = append(list, x)
		}
	}
	return list
}

// isEven tells whether the counts are so many, and each is size / n, rounded down or up.
func isEven(counts []int, n, size int) bool {
	sum := 0
	for _, count := range counts {
		if count != size/n && count != (size+n-1)/n {
			return false
		}
		sum += count
	}
	return len(counts) == n && sum == size
}

// tally is how many places each of the points has, in their order, as tell tells it of each place.
func tally(list []api.Point, size int, tell func(place int) api.Point) []int {
	times := map[api.Point]int{}
	for place := range size {
		times[tell(place)]++
	}
	var counts []int
	for _, p := range list {
		counts = append(counts, times[p])
	}
	return counts
}

// P10.2: all orders of a list fill one table; each backend has M / n of the slots, and all slots are somebody's.
func TestP10_2_Fill(t *testing.T) {
	for _, x := range sets() {
		want := made(t, x.list, x.size)
		counts := make([]int, len(x.list))
		for _, who := range want.Slots {
			counts[who]++
		}
		if !isEven(counts, len(x.list), x.size) {
			t.Fatalf("of %v in %d: %v", x.list, x.size, counts)
		}
		for _, order := range x.orders {
			if got := made(t, order, x.size); !alike(got, want) {
				t.Fatalf("of %v in %d: %v; want %v", order, x.size, got, want)
			}
		}
	}
	for _, order := range orders(few(rand.New(rand.NewSource(107)), 6)) {
		if got, want := made(t, order, 13), made(t, orders(order)[719], 13); !alike(got, want) {
			t.Fatalf("of %v: %v; want %v", order, got, want)
		}
	}
}

// P10.2: the tables of all orders are right; one that isn't even isn't, nor one that keeps another order.
func TestP10_2_Right(t *testing.T) {
	for _, x := range sets() {
		for _, order := range x.orders {
			if got := made(t, order, x.size); !maglev.Right(got) {
				t.Fatalf("of %v: %v isn't right", order, got)
			}
		}
		if len(x.list) == 1 {
			continue
		}
		whole := made(t, x.list, x.size)
		greedy := changed(whole, func(x *maglev.Table) { clear(x.Slots) })
		turned := changed(whole, func(x *maglev.Table) { slices.Reverse(x.Backends) })
		if maglev.Right(greedy) || maglev.Right(turned) {
			t.Fatalf("of %v in %d: one has all places, or the order is another, and it is right", x.list, x.size)
		}
	}
}

// P10.2: a tuple is one backend's, whatever the order of the list; by tuples that come to each place, each backend has M / n of these.
func TestP10_2_Of(t *testing.T) {
	coming := map[int][][]byte{} // by size, for each place a tuple that comes to it
	for _, size := range primes() {
		coming[size] = make([][]byte, size)
		for n, left := 0, size; left > 0; n++ {
			tuple := flow(api.TCP, n)
			tuple = append(tuple, byte(n>>16))
			if place := placeOf(tuple, size); coming[size][place] == nil {
				coming[size][place] = tuple
				left--
			}
		}
	}
	for _, x := range sets() {
		whole := made(t, x.list, x.size)
		tell := func(place int) api.Point { p, _ := whole.Of(coming[x.size][place]); return p }
		if counts := tally(x.list, x.size, tell); !isEven(counts, len(x.list), x.size) {
			t.Fatalf("of %v in %d: %v", x.list, x.size, counts)
		}
		other := made(t, x.orders[len(x.orders)-2], x.size)
		for place, tuple := range coming[x.size] {
			if got, is := other.Of(tuple); !is || got != tell(place) {
				t.Fatalf("of %v in %d: %x is %v's, %t; want %v", other.Backends, x.size, tuple, got, is, tell(place))
			}
		}
	}
}

// P10.2: every place is somebody's, and one backend's, whatever the order of the list; each backend has M / n of them.
func TestP10_2_At(t *testing.T) {
	for _, x := range sets() {
		whole := made(t, x.list, x.size)
		tell := func(place int) api.Point { p, _ := whole.At(place); return p }
		if counts := tally(x.list, x.size, tell); !isEven(counts, len(x.list), x.size) {
			t.Fatalf("of %v in %d: %v", x.list, x.size, counts)
		}
		for _, order := range x.orders {
			other := made(t, order, x.size)
			for place := range x.size {
				if got, is := other.At(place); !is || got != tell(place) {
					t.Fatalf("of %v in %d: place %d is %v's, %t; want %v", order, x.size, place, got, is, tell(place))
				}
			}
		}
	}
}

// P10.2: the counts of all orders of a list are the same, all places are counted, and each backend has M / n.
func TestP10_2_Counts(t *testing.T) {
	for _, x := range sets() {
		want := made(t, x.list, x.size).Counts()
		if !isEven(want, len(x.list), x.size) {
			t.Fatalf("of %v in %d: %v", x.list, x.size, want)
		}
		for _, order := range x.orders {
			if got := made(t, order, x.size).Counts(); !slices.Equal(got, want) {
				t.Fatalf("of %v in %d: %v; want %v", order, x.size, got, want)
			}
		}
	}
}

// P10.2: nothing moves between the tables of a list's orders; between those of unlike sets something does.
func TestP10_2_Moved(t *testing.T) {
	for _, x := range sets() {
		whole := made(t, x.list, x.size)
		for _, order := range x.orders {
			other := made(t, order, x.size)
			if there, back := whole.Moved(other), other.Moved(whole); there != 0 || back != 0 {
				t.Fatalf("of %v in %d: %d moved, and back %d", order, x.size, there, back)
			}
		}
		if len(x.list) > 1 {
			// The places of the one that goes are others' then, so they at least move.
			less := made(t, x.list[1:], x.size)
			if there, back := whole.Moved(less), less.Moved(whole); there < x.size/len(x.list) || there != back {
				t.Fatalf("without %v of %v in %d: %d moved, and back %d", x.list[0], x.list, x.size, there, back)
			}
		}
	}
}

// P10.2: the tables of all orders of a list are the same, those of unlike sets aren't.
func TestP10_2_Same(t *testing.T) {
	for _, x := range sets() {
		whole := made(t, x.list, x.size)
		for _, order := range x.orders {
			if other := made(t, order, x.size); !maglev.Same(whole, other) || !maglev.Same(other, whole) {
				t.Fatalf("of %v in %d: %v isn't the same as %v", order, x.size, other, whole)
			}
		}
		if len(x.list) > 1 {
			if less := made(t, x.list[1:], x.size); maglev.Same(whole, less) || maglev.Same(less, whole) {
				t.Fatalf("of %v in %d: the same without %v", x.list, x.size, x.list[0])
			}
		}
	}
}
