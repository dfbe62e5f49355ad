package prime_test

import (
	"errors"
	"math"
	"math/big"
	"math/rand"
	"slices"
	"testing"

	"linkboy/api"
	"linkboy/prime"
)

const (
	bound    = 1 << 31 // the greatest number of which something is told
	greatest = bound - 1
)

// sieved is, for each number up to most, the least prime that divides it, found by striking out multiples (0 of 0 and 1).
func sieved(most int) []int {
	by := make([]int, most+1)
	for n := 2; n <= most; n++ {
		if by[n] > 0 {
			continue
		}
		for k := n; k <= most; k += n {
			if by[k] == 0 {
				by[k] = n
			}
		}
	}
	return by
}

// sure tells whether a number is prime by another way (below 2^64 that one is never wrong).
func sure(n int) bool { return n > 1 && big.NewInt(int64(n)).ProbablyPrime(0) }

// some is a number up to the bound made by chance, of any size.
func some(chance *rand.Rand) int { return chance.Intn(bound+1) >> chance.Intn(31) }

// beyond is numbers below 2 and above 2^31, those among them that are prime or would be one modulo 2^31 or 2^32, or as their opposite.
func beyond() []int {
	return []int{
		1, 0, -1, -2, -3, -4, -7, -11, -9973, -greatest, -bound, math.MinInt, math.MinInt + 1, math.MinInt + 3,
		bound + 1, bound + 2, bound + 3, bound + 7, 2147483659, 2147483693, 3215031751, 1<<32 - 5, 1 << 32, 1<<32 + 1, 1<<32 + 2, 1<<32 + 3, 1<<32 + 7, 1<<32 + 15,
		1<<32 + greatest, 1<<61 - 1, 1 << 62, 1<<62 + 7, math.MaxInt - 24, math.MaxInt - 1, math.MaxInt,
	}
}

// hard is composites that are easily taken for primes, and those that have just great divisors.
func hard() []int {
	return []int{
		341, 561, 1105, 1729, 2047, 2465, 2821, 6601, 8911, 25326001, 1373653, 9080191,
		46337 * 46337, 46327 * 46337, 46337 * 46341, 32749 * 65537, 32749 * 32749, 3 * 715827881, 2 * 1073741789, 5 * 429496729,
		25, 49, 121, 169, 289, 251 * 251, 241 * 251, 65536, 1 << 30, 1<<30 + 1,
	}
}

// P8.1: known numbers, prime and not.
func TestP8_1_Is(t *testing.T) {
	for _, n := range []int{2, 3, 5, 7, 11, 13, 17, 97, 251, 257, 9973, 10007, 46337, 46349, 65521, 65537, 715827881, 1073741789, 2147483629, greatest} {
		if !prime.Is(n) {
			t.Fatalf("%d is no prime", n)
		}
	}
	for _, n := range append(append(hard(), beyond()...), 4, 6, 8, 9, 10, 12, 15, 21, 255, bound, bound-2, bound-3) {
		if prime.Is(n) {
			t.Fatalf("%d is a prime", n)
		}
	}
}

// P8.1: all small numbers as a sieve tells them, and great ones, those beside the bound among them, by another way.
func TestP8_1_IsByOtherWays(t *testing.T) {
	for n, by := range sieved(1 << 17) {
		if got := prime.Is(n); got != (n > 1 && by == n) {
			t.Fatalf("%d: %t", n, got)
		}
		if prime.Is(-n) {
			t.Fatalf("%d is a prime", -n)
		}
	}
	for n := bound - 3000; n <= bound; n++ {
		if got := prime.Is(n); got != sure(n) {
			t.Fatalf("%d: %t", n, got)
		}
		if prime.Is(n + 3001) {
			t.Fatalf("%d is a prime", n+3001)
		}
	}
	chance := rand.New(rand.NewSource(81))
	for range 5000 {
		n := some(chance)
		if got := prime.Is(n); got != sure(n) {
			t.Fatalf("%d: %t", n, got)
		}
		if n = bound + 1 + chance.Intn(math.MaxInt-bound); prime.Is(n) || prime.Is(-n) {
			t.Fatalf("%d or its opposite is a prime", n)
		}
	}
}

// P8.1: the least prime from known numbers on, a prime itself among them; from below 2 on it is 2.
func TestP8_1_Next(t *testing.T) {
	for n, want := range map[int]int{
		math.MinInt: 2, -greatest: 2, -8: 2, -2: 2, -1: 2, 0: 2, 1: 2, 2: 2, 3: 3, 4: 5, 5: 5, 6: 7, 7: 7, 8: 11, 11: 11, 12: 13,
		90: 97, 114: 127, 240: 241, 242: 251, 251: 251, 252: 257, 9974: 10007, 46338: 46349, 65522: 65537,
		1357202: 1357333, 20831324: 20831533, 1294268492: 1294268779, 1453168142: 1453168433, 1453168141: 1453168141,
		2147483588: 2147483629, 2147483629: 2147483629, 2147483630: greatest, greatest - 1: greatest, greatest: greatest,
	} {
		if got, err := prime.Next(n); err != nil || got != want {
			t.Fatalf("from %d on: %d, %v; want %d", n, got, err, want)
		}
	}
}

// P8.1: above 2^31 - 1 there is no next one, be there a prime or not.
func TestP8_1_NextBeyond(t *testing.T) {
	for _, n := range append(beyond(), bound) {
		got, err := prime.Next(n)
		if n < bound {
			if err != nil || got != 2 {
				t.Fatalf("from %d on: %d, %v", n, got, err)
			}
		} else if !errors.Is(err, api.ErrRange) || got != 0 {
			t.Fatalf("from %d on: %d, %v; want ErrRange", n, got, err)
		}
	}
}

// P8.1: no prime is left out on the way to the next one: of all small numbers, of those beside the bound, and of numbers made by chance.
func TestP8_1_NextByAnotherWay(t *testing.T) {
	hold := func(n int) {
		t.Helper()
		want := max(n, 2)
		for !sure(want) {
			want++
		}
		if got, err := prime.Next(n); err != nil || got != want {
			t.Fatalf("from %d on: %d, %v; want %d", n, got, err, want)
		}
	}
	for n := -300; n <= 12000; n++ {
		hold(n)
	}
	for n := greatest - 300; n <= greatest; n++ {
		hold(n)
	}
	chance := rand.New(rand.NewSource(82))
	for range 300 {
		hold(min(some(chance), greatest))
	}
}

// P8.1: all primes up to every small number, and up to 10000 beyond it.
func TestP8_1_List(t *testing.T) {
	by := sieved(10000)
	var want []int
	for n := range 10001 {
		if n > 1 && by[n] == n {
			want = append(want, n)
		}
		if n > 400 && n < 9900 && n%97 > 0 {
			continue
		}
		if got := prime.List(n); !slices.Equal(got, want) {
			t.Fatalf("up to %d: %v; want %v", n, got, want)
		}
	}
	if len(want) != 1229 || want[1228] != 9973 {
		t.Fatalf("%d primes below 10000, the last of them %d", len(want), want[len(want)-1])
	}
	for _, n := range []int{10000, 10001, 10006, 10007, 10008, 20000, 1 << 20, greatest, bound, 1 << 32, 1<<32 + 5, math.MaxInt} {
		if got := prime.List(n); !slices.Equal(got, want) {
			t.Fatalf("up to %d: %d primes", n, len(got))
		}
	}
	for _, n := range []int{1, 0, -1, -2, -3, -100, -10000, -bound, -1<<32 + 5, math.MinInt} {
		if got := prime.List(n); len(got) != 0 {
			t.Fatalf("up to %d: %v", n, got)
		}
	}
}

// P8.1: each list is the caller's: writing over it, and over the room behind it, changes none that is told later or was told before.
func TestP8_1_ListApart(t *testing.T) {
	want := []int{2, 3, 5, 7, 11, 13, 17, 19, 23, 29}
	one, two := prime.List(30), prime.List(30)
	clear(one[:cap(one)])
	if !slices.Equal(two, want) || !slices.Equal(prime.List(30), want) || !slices.Equal(prime.List(10)[:4], want[:4]) {
		t.Fatalf("a list was written over, and now: %v, %v", two, prime.List(30))
	}
	if !prime.Is(2) || prime.Least(9) != 3 {
		t.Fatal("a list was written over, and other calls tell otherwise")
	}
}

// P8.1: the least prime that divides known numbers, a prime itself among them.
func TestP8_1_Least(t *testing.T) {
	for n, want := range map[int]int{
		2: 2, 3: 3, 4: 2, 5: 5, 6: 2, 7: 7, 8: 2, 9: 3, 15: 3, 25: 5, 35: 5, 49: 7, 77: 7, 121: 11, 143: 11, 221: 13, 251 * 251: 251, 251: 251, 9973: 9973,
		46337 * 46337: 46337, 46327 * 46337: 46327, 32749 * 65537: 32749, 3 * 715827881: 3, 2 * 1073741789: 2,
		1 << 30: 2, bound: 2, bound - 1: bound - 1, bound - 2: 2, bound - 3: 5, bound - 19: bound - 19,
	} {
		if got := prime.Least(n); got != want {
			t.Fatalf("of %d: %d; want %d", n, got, want)
		}
	}
	for _, n := range beyond() {
		if got := prime.Least(n); got != 0 {
			t.Fatalf("of %d: %d; want 0", n, got)
		}
	}
}

// P8.1: of all small numbers it is as a sieve tells it; of great ones it divides, is prime, and nothing below it divides.
func TestP8_1_LeastByOtherWays(t *testing.T) {
	for n, want := range sieved(1 << 17) {
		if got := prime.Least(n); got != want {
			t.Fatalf("of %d: %d; want %d", n, got, want)
		}
		if got := prime.Least(-n); got != 0 {
			t.Fatalf("of %d: %d; want 0", -n, got)
		}
	}
	list := hard()
	chance := rand.New(rand.NewSource(83))
	for range 300 {
		list = append(list, max(2, some(chance)), bound-chance.Intn(10000))
	}
	for _, n := range list {
		got := prime.Least(n)
		if got < 2 || n%got != 0 || !sure(got) {
			t.Fatalf("of %d: %d", n, got)
		}
		for d := 2; d < got && d*d <= n; d++ {
			if n%d == 0 {
				t.Fatalf("of %d: %d; want %d", n, got, d)
			}
		}
	}
}
