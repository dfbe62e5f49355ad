package dial_test

import (
	"math"
	"math/rand"
	"slices"
	"testing"

	"linkboy/addr"
	"linkboy/api"
	"linkboy/dial"
	"linkboy/maglev"
)

// known is slots, their balances, and the worst of these: a separate script's.
type known struct {
	slots    []int
	balances []complex128
	worst    int
	most     float64
}

func knowns() []known {
	return []known{
		{[]int{0, 0, 0}, []complex128{1i}, 0, 1},
		{[]int{0}, []complex128{complex(1, 0)}, 0, 1},
		{[]int{1, 1}, []complex128{complex(0, 0), complex(1, 1)}, 1, 2},
		{[]int{2, 2, 0}, []complex128{complex(-1, 0), complex(0, 0), complex(1, 1)}, 2, 2},
		{[]int{0, 1, 1, 0, 0}, []complex128{complex(2, -1), complex(-1, 1)}, 0, 5},
		{[]int{2, 2, 2, 0, 2, 1, 1}, []complex128{complex(0, -1), complex(-1, 1), complex(1, 1)}, 1, 2},
		{[]int{1, 0, 0, 0, 0, 1, 1, 0, 3, 2, 3, 1, 1}, []complex128{complex(0, -1), complex(1, 0), complex(0, 1), complex(0, 0)}, 0, 1},
		{
			[]int{2, 3, 0, 0, 3, 2, 3, 4, 0, 2, 2, 1, 4, 2, 0, 0, 4, 0, 3, 0, 2, 3, 0, 0, 0, 1, 1, 0, 3},
			[]complex128{complex(-1, -4), complex(-1, 0), complex(1, 3), complex(0, 2), complex(2, -1)}, 0, 17,
		},
	}
}

// balance is who's balance, by counts of the places that point each way.
func balance(slots []int, who int) complex128 {
	var counts [4]int
	for place := range slots {
		if slots[place] == who {
			counts[place%4]++
		}
	}
	return complex(float64(counts[0]-counts[2]), float64(counts[1]-counts[3]))
}

// tables is slots by chance, of each size from 0 to 260 and two great ones, with places of nobody, and of those beyond all backends.
func tables() [][]int {
	chance := rand.New(rand.NewSource(112))
	var list [][]int
	for size := range 261 {
		slots := make([]int, size)
		for place := range slots {
			slots[place] = chance.Intn(api.MaxBackends+4) - 2
		}
		list = append(list, slots)
	}
	odd := make([]int, 5000) // all of who point the same way
	for place := range odd {
		odd[place] = place % 4
	}
	return append(list, nil, []int{math.MaxInt, math.MinInt, -1, 24, math.MaxInt}, odd, slices.Repeat([]int{3}, 10007))
}

// whole is slots in which each place is one of the backends 0 to many - 1.
func whole(chance *rand.Rand, size, many int) []int {
	slots := make([]int, size)
	for place := range slots {
		slots[place] = chance.Intn(many)
	}
	return slots
}

// P11.1: the balance is the sum over the places whose slot is who, whoever that is.
func TestP11_1_Balance(t *testing.T) {
	for _, x := range knowns() {
		for who, want := range x.balances {
			if got := dial.Balance(x.slots, who); !alike(got, want) {
				t.Errorf("%d of %v: %v; want %v", who, x.slots, got, want)
			}
		}
	}
	for _, slots := range tables() {
		for _, who := range []int{math.MinInt, -3, -2, -1, 0, 1, 2, 3, 22, 23, 24, 25, 26, 1000, math.MaxInt} {
			if got, want := dial.Balance(slots, who), balance(slots, who); !alike(got, want) {
				t.Fatalf("%d of %v: %v; want %v", who, slots, got, want)
			}
		}
	}
}

// P11.1: nobody's places come to a nought above 0, in both parts.
func TestP11_1_BalanceOfNone(t *testing.T) {
	for _, slots := range [][]int{nil, {}, {1}, {1, 2, -1}, {0, 1, 0}, {1, 0, 1, 0}, {0, 0, 0, 0}, {-1, -1, 0, 0, 0, 0}} {
		if got := dial.Balance(slots, 0); !alike(got, 0) {
			t.Errorf("%v: %v; want 0", slots, got)
		}
	}
}

// P11.1: the balance of each of so many, and none of too few or too many.
func TestP11_1_All(t *testing.T) {
	for _, x := range knowns() {
		if got := dial.All(x.slots, len(x.balances)); !slices.EqualFunc(got, x.balances, alike) {
			t.Errorf("%v: %v; want %v", x.slots, got, x.balances)
		}
	}
	for _, slots := range tables() {
		for many := -2; many < api.MaxBackends+4; many++ {
			var want []complex128
			for who := 0; who < many && many <= 24; who++ {
				want = append(want, balance(slots, who))
			}
			if got := dial.All(slots, many); !slices.EqualFunc(got, want, alike) {
				t.Fatalf("%d of %v: %v; want %v", many, slots, got, want)
			}
		}
	}
	for _, many := range []int{math.MinInt, -1 << 32, -1, 0, 25, 26, 1<<32 + 5, 1 << 62, math.MaxInt} {
		if got := dial.All([]int{0, 1, 2}, many); len(got) != 0 {
			t.Errorf("%d: %v; want none", many, got)
		}
	}
}

// P11.1: the total of so many places, and of very many, by the counts of those that point each way.
func TestP11_1_Total(t *testing.T) {
	for size, want := range map[int]complex128{
		0: 0, 1: 1, 2: complex(1, 1), 3: 1i, 4: 0, 5: 1, 6: complex(1, 1), 7: 1i, 8: 0, 251: 1i,
		-1: 0, -2: 0, -3: 0, -4: 0, -5: 0, -6: 0, -7: 0, math.MinInt: 0, math.MinInt + 1: 0, math.MinInt + 2: 0, math.MinInt + 3: 0,
		math.MaxInt: 1i, math.MaxInt - 1: complex(1, 1), math.MaxInt - 2: 1, math.MaxInt - 3: 0, 1 << 31: 0, 1<<31 - 1: 1i, 1<<32 + 1: 1, 1 << 62: 0,
	} {
		if got := dial.Total(size); !alike(got, want) {
			t.Errorf("%d: %v; want %v", size, got, want)
		}
	}
	for size := range 600 {
		if got, want := dial.Total(size), balance(make([]int, size), 0); !alike(got, want) {
			t.Errorf("%d: %v; want %v", size, got, want)
		}
	}
}

// P11.1: the first one whose balance has the greatest norm, and that; -1 and 0, if there is none.
func TestP11_1_Worst(t *testing.T) {
	for _, x := range knowns() {
		if who, norm := dial.Worst(x.slots, len(x.balances)); who != x.worst || !alikePart(norm, x.most) {
			t.Errorf("%v: %d, %v; want %d, %v", x.slots, who, norm, x.worst, x.most)
		}
	}
	for _, slots := range tables() {
		for many := -2; many < api.MaxBackends+4; many++ {
			want, most := -1, 0.0
			for who := many - 1; who >= 0 && many <= 24; who-- {
				z := balance(slots, who)
				if norm := real(z)*real(z) + imag(z)*imag(z); norm >= most {
					want, most = who, norm
				}
			}
			if who, norm := dial.Worst(slots, many); who != want || !alikePart(norm, most) {
				t.Fatalf("%d of %v: %d, %v; want %d, %v", many, slots, who, norm, want, most)
			}
		}
	}
}

// P11.1: the edges of Worst: nobody's places, noughts alone, several alike, and a number of backends beyond its bounds.
func TestP11_1_WorstEdges(t *testing.T) {
	for _, x := range []struct {
		slots []int
		many  int
		who   int
		norm  float64
	}{
		{nil, 1, 0, 0}, {nil, 24, 0, 0}, {[]int{}, 3, 0, 0}, {[]int{-1, 5, 24}, 3, 0, 0}, {[]int{0, 0, 0, 0}, 1, 0, 0}, {[]int{0, 0, 0, 0}, 2, 0, 0},
		{[]int{1, 1, 1, 1, 1}, 3, 1, 1}, {[]int{2, 1, 0}, 3, 0, 1}, {[]int{2, 1}, 3, 1, 1}, {[]int{1, 1, 2, 2}, 3, 1, 2}, {[]int{0, 1, 2, 3, 0}, 4, 0, 4},
		{[]int{0, 1, 2, 3, 4, 3}, 4, 0, 1}, {[]int{7, 23, 23}, 24, 23, 2}, {[]int{7, 23, 23}, 23, 7, 1}, {[]int{0, 1, 1}, 1, 0, 1},
		{[]int{0, 1}, 0, -1, 0}, {[]int{0, 1}, -1, -1, 0}, {[]int{0, 1}, 25, -1, 0}, {[]int{0, 1}, math.MinInt, -1, 0}, {[]int{0, 1}, math.MaxInt, -1, 0}, {nil, 0, -1, 0},
	} {
		if who, norm := dial.Worst(x.slots, x.many); who != x.who || !alikePart(norm, x.norm) {
			t.Errorf("%d of %v: %d, %v; want %d, %v", x.many, x.slots, who, norm, x.who, x.norm)
		}
	}
}

// P11.1: the slots of layer 10's tables.
func TestP11_1_Table(t *testing.T) {
	var list []api.Point
	for n := range 3 {
		list = append(list, api.Point{Addr: addr.Four(10, 0, 0, byte(n+1)), Port: 80})
	}
	table, err := maglev.Fill(list, 7)
	if err != nil {
		t.Fatal(err)
	}
	want := []complex128{1, -1 - 1i, 2i} // the slots are 0, 2, 0, 1, 0, 2, 1
	if got := dial.All(table.Slots, 3); !slices.EqualFunc(got, want, alike) {
		t.Errorf("%v; want %v", got, want)
	}
}

// P11.1: no call writes to its slots, nor behind them, and what All answers shares nothing.
func TestP11_1_Apart(t *testing.T) {
	room := []int{0, 1, 0, 2, 1, 9, 8, 7}
	slots := room[:5]
	first := dial.All(slots, 3)
	dial.Balance(slots, 1)
	dial.Worst(slots, 3)
	if !slices.Equal(room, []int{0, 1, 0, 2, 1, 9, 8, 7}) {
		t.Fatalf("the slots are %v now", room)
	}
	want := slices.Clone(first)
	first[0], first[2] = 99, 98
	if again := dial.All(slots, 3); !slices.EqualFunc(again, want, alike) {
		t.Errorf("%v; want %v", again, want)
	}
}

// sum is all points together, part by part.
func sum(list []complex128) complex128 {
	a, b := 0.0, 0.0
	for _, z := range list {
		a, b = a+real(z), b+imag(z)
	}
	return complex(a, b)
}

// eachWhole asks of whole tables of each size from 0 to 251 and of each number of backends.
func eachWhole(ask func(slots []int, many int)) {
	chance := rand.New(rand.NewSource(113))
	for size := range 252 {
		for many := 1; many <= api.MaxBackends; many++ {
			ask(whole(chance, size, many), many)
		}
	}
}

// P11.2: where each place is a backend's, the balances of all are the total together.
func TestP11_2_All(t *testing.T) {
	eachWhole(func(slots []int, many int) {
		if got, want := sum(dial.All(slots, many)), balance(make([]int, len(slots)), 0); !alike(got, want) {
			t.Fatalf("%d of %v: %v; want %v", many, slots, got, want)
		}
	})
}

// P11.2: the balances, asked one by one, are the total together.
func TestP11_2_Balance(t *testing.T) {
	eachWhole(func(slots []int, many int) {
		var list []complex128
		for who := range many {
			list = append(list, dial.Balance(slots, who))
		}
		if got, want := sum(list), balance(make([]int, len(slots)), 0); !alike(got, want) {
			t.Fatalf("%d of %v: %v; want %v", many, slots, got, want)
		}
	})
}

// P11.2: the total is that of the balances of all, together.
func TestP11_2_Total(t *testing.T) {
	eachWhole(func(slots []int, many int) {
		var list []complex128
		for who := range many {
			list = append(list, balance(slots, who))
		}
		if got, want := dial.Total(len(slots)), sum(list); !alike(got, want) {
			t.Fatalf("%d: %v; want %v", len(slots), got, want)
		}
	})
}

// P11.2: where the places point to is the total together, whoever's they are.
func TestP11_2_Quarter(t *testing.T) {
	eachWhole(func(slots []int, many int) {
		var list []complex128
		for place := range slots {
			list = append(list, dial.Quarter(place))
		}
		if got, want := sum(list), dial.Total(len(slots)); !alike(got, want) {
			t.Fatalf("%d: %v; want %v", len(slots), got, want)
		}
	})
}

// P11.2: the balances of a table whose places begin n places on are spun by n, and so is their total.
func TestP11_2_Spin(t *testing.T) {
	eachWhole(func(slots []int, many int) {
		for n := range 4 {
			var list []complex128
			for _, z := range dial.All(slots, many) {
				list = append(list, dial.Spin(z, n))
			}
			later := slices.Concat(slices.Repeat([]int{many}, n), slots)
			// Noughts may differ in their sign here, as a spin turns it.
			if got, want := sum(list), sum(dial.All(later, many)); got != want || got != dial.Spin(dial.Total(len(slots)), n) {
				t.Fatalf("%v by %d: %v; want %v", slots, n, got, want)
			}
		}
	})
}

// P11.2: all balances mirrored are the total mirrored.
func TestP11_2_Mirror(t *testing.T) {
	eachWhole(func(slots []int, many int) {
		var list []complex128
		for _, z := range dial.All(slots, many) {
			list = append(list, dial.Mirror(z))
		}
		if got, want := sum(list), dial.Mirror(dial.Total(len(slots))); got != want {
			t.Fatalf("%d of %v: %v; want %v", many, slots, got, want)
		}
	})
}

// P11.2: the balances of all have the total's norm together.
func TestP11_2_Norm(t *testing.T) {
	eachWhole(func(slots []int, many int) {
		want := [4]float64{0, 1, 2, 1}[len(slots)%4]
		if got := dial.Norm(sum(dial.All(slots, many))); !alikePart(got, want) {
			t.Fatalf("%d of %v: %v; want %v", many, slots, got, want)
		}
	})
}

// P11.2: the one backend that has all places has the total; of several none is worse than the worst, so that together they come to no more.
func TestP11_2_Worst(t *testing.T) {
	eachWhole(func(slots []int, many int) {
		who, norm := dial.Worst(slots, many)
		total := [4]float64{0, 1, 2, 1}[len(slots)%4]
		if many == 1 && (who != 0 || !alikePart(norm, total)) {
			t.Fatalf("one of %v: %d, %v; want 0, %v", slots, who, norm, total)
		}
		if math.Sqrt(total) > float64(many)*math.Sqrt(norm)+1e-9 {
			t.Fatalf("%d of %v: %v, but the total's norm is %v", many, slots, norm, total)
		}
	})
}

// P11.2: the text of the balances of all, together, is the total's.
func TestP11_2_Tell(t *testing.T) {
	eachWhole(func(slots []int, many int) {
		want := [4]string{"0+0i", "1+0i", "1+1i", "0+1i"}[len(slots)%4]
		if got := dial.Tell(sum(dial.All(slots, many))); got != want {
			t.Fatalf("%d of %v: %q; want %q", many, slots, got, want)
		}
	})
}
