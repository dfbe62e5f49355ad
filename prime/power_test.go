package prime_test

import (
	"errors"
	"math"
	"math/big"
	"math/rand"
	"testing"

	"linkboy/api"
	"linkboy/prime"
)

// rested is what a number leaves, divided by p, never below 0, without any bound.
func rested(a, p int) int {
	return int(new(big.Int).Mod(big.NewInt(int64(a)), big.NewInt(int64(p))).Int64())
}

// raised is what Power must tell of a right k and p, without any bound.
func raised(a, k, p int) int {
	base := big.NewInt(int64(rested(a, p)))
	return int(new(big.Int).Exp(base, big.NewInt(int64(k)), big.NewInt(int64(p))).Int64())
}

// product is two numbers times each other modulo p, without any bound.
func product(a, b, p int) int {
	whole := new(big.Int).Mul(big.NewInt(int64(a)), big.NewInt(int64(b)))
	return int(whole.Mod(whole, big.NewInt(int64(p))).Int64())
}

// primes is small primes, all up to 251 among them, and great ones, the greatest too.
func primes() []int {
	var list []int
	for n := range 252 {
		if sure(n) {
			list = append(list, n)
		}
	}
	return append(list, 9973, 10007, 46337, 46349, 65537, 715827881, 1073741789, 1073741827, 2147483629, greatest)
}

// bases is numbers beside the multiples of p, below 0 and beyond p too, and made by chance.
func bases(chance *rand.Rand, p int) []int {
	list := []int{math.MinInt, math.MinInt + 1, math.MaxInt, math.MaxInt - 1, 1 << 31, 1 << 32, 1<<62 + 1, -1 << 31, -1 << 62}
	for _, n := range []int{0, p, -p, 2 * p, -2 * p, p / 2, p * p, -p * p, math.MaxInt / p * p, math.MinInt / p * p} {
		list = append(list, n)
		for d := 1; d < 4 && n < math.MaxInt-4 && n > math.MinInt+4; d++ {
			list = append(list, n+d, n-d)
		}
	}
	for range 30 {
		list = append(list, chance.Int()>>chance.Intn(63), -chance.Int()>>chance.Intn(63))
	}
	return list
}

// P8.1: the inverses of known numbers, below 0 and beyond p too.
func TestP8_1_Inverse(t *testing.T) {
	for _, x := range []struct{ a, p, want int }{
		{1, 2, 1}, {3, 2, 1}, {-1, 2, 1}, {math.MaxInt, 2, 1},
		{1, 3, 1}, {2, 3, 2}, {4, 3, 1}, {-1, 3, 2}, {-2, 3, 1},
		{1, 7, 1}, {2, 7, 4}, {3, 7, 5}, {4, 7, 2}, {5, 7, 3}, {6, 7, 6}, {8, 7, 1}, {10, 7, 5}, {-1, 7, 6}, {-4, 7, 5}, {-5, 7, 4}, {-8, 7, 6},
		{2, 251, 126}, {250, 251, 250}, {-250, 251, 1}, {100, 251, 123},
		{1, greatest, 1}, {2, greatest, 1 << 30}, {greatest - 1, greatest, greatest - 1}, {greatest + 1, greatest, 1}, {-1, greatest, greatest - 1}, {1 << 30, greatest, 2},
	} {
		if got, err := prime.Inverse(x.a, x.p); err != nil || got != x.want {
			t.Fatalf("of %d modulo %d: %d, %v; want %d", x.a, x.p, got, err, x.want)
		}
	}
}

// P8.1: of each small number, the only one that times it is 1, found by trying all.
func TestP8_1_InverseByTrying(t *testing.T) {
	for p := 2; p <= 60; p++ {
		for a := -3 * p; sure(p) && a <= 3*p; a++ {
			want := 0
			for b := 1; b < p; b++ {
				if ((a*b-1)%p+p)%p == 0 {
					want = b
				}
			}
			got, err := prime.Inverse(a, p)
			if got != want || (err == nil) != (want > 0) || want == 0 && !errors.Is(err, api.ErrNone) {
				t.Fatalf("of %d modulo %d: %d, %v; want %d", a, p, got, err, want)
			}
		}
	}
}

// P8.1: of great numbers, by another way; a multiple of p has none.
func TestP8_1_InverseByAnotherWay(t *testing.T) {
	chance := rand.New(rand.NewSource(84))
	for _, p := range primes() {
		for _, a := range bases(chance, p) {
			got, err := prime.Inverse(a, p)
			if rested(a, p) == 0 {
				if got != 0 || !errors.Is(err, api.ErrNone) {
					t.Fatalf("of %d modulo %d: %d, %v; want ErrNone", a, p, got, err)
				}
				continue
			}
			want := new(big.Int).ModInverse(big.NewInt(int64(a)), big.NewInt(int64(p))).Int64()
			if err != nil || got != int(want) {
				t.Fatalf("of %d modulo %d: %d, %v; want %d", a, p, got, err, want)
			}
		}
	}
}

// P8.1: modulo what isn't prime there is none told, be it a multiple of that or not: that error is the first.
func TestP8_1_InverseNoPrime(t *testing.T) {
	list := append(append(hard(), beyond()...), 4, 6, 8, 9, 10, 15, 255, bound, bound-2)
	for _, p := range list {
		for _, a := range []int{0, 1, 2, 3, 5, -1, -3, p, -p, p + 1, p - 1, math.MaxInt, math.MinInt} {
			if got, err := prime.Inverse(a, p); got != 0 || !errors.Is(err, api.ErrRange) {
				t.Fatalf("of %d modulo %d: %d, %v; want ErrRange", a, p, got, err)
			}
		}
	}
}

// P8.1: known powers; to the power of 0 all are 1 (modulo 1: 0).
func TestP8_1_Power(t *testing.T) {
	for _, x := range []struct{ a, k, p, want int }{
		{2, 10, 1000, 24}, {3, 4, 7, 4}, {2, 1, 7, 2}, {9, 1, 7, 2}, {-1, 1, 7, 6}, {-1, 2, 7, 1}, {-2, 3, 7, 6}, {-9, 3, 10, 1},
		{0, 0, 7, 1}, {0, 0, 2, 1}, {0, 0, 1, 0}, {5, 0, 1, 0}, {5, 3, 1, 0}, {0, 1, 7, 0}, {0, 5, 7, 0}, {7, 0, 7, 1}, {7, 3, 7, 0}, {-7, 3, 7, 0},
		{2, 31, bound, 0}, {2, 30, bound, 1 << 30}, {2, 31, greatest, 1}, {2, 32, greatest, 2}, {greatest, 2, bound, 1}, {greatest, 3, bound, greatest}, {-1, 3, bound, greatest},
		{-1, math.MaxInt, greatest, greatest - 1}, {-1, math.MaxInt - 1, greatest, 1}, {1, math.MaxInt, bound, 1}, {0, math.MaxInt, bound, 0},
		{math.MinInt, 1, 10, 2}, {math.MinInt, 1, 3, 1}, {math.MinInt, 1, greatest, greatest - 2}, {math.MaxInt, 1, 10, 7},
	} {
		if got := prime.Power(x.a, x.k, x.p); got != x.want {
			t.Fatalf("%d to the power of %d modulo %d: %d; want %d", x.a, x.k, x.p, got, x.want)
		}
	}
}

// P8.1: small powers, of numbers below 0 and beyond p too, one factor after the other; p is prime or not.
func TestP8_1_PowerByFactors(t *testing.T) {
	for p := 1; p <= 33; p++ {
		for a := -70; a <= 70; a++ {
			want := 1 % p
			for k := range 70 {
				if got := prime.Power(a, k, p); got != want {
					t.Fatalf("%d to the power of %d modulo %d: %d; want %d", a, k, p, got, want)
				}
				want = ((want*a)%p + p) % p
			}
		}
	}
}

// P8.1: great powers of great numbers, modulo primes and others up to 2^31, without bounds.
func TestP8_1_PowerByAnotherWay(t *testing.T) {
	chance := rand.New(rand.NewSource(85))
	moduli := append(append(primes(), hard()...), 1, 4, 1<<16, 1<<16+1, 46340, 46341, bound-2, bound-1, bound)
	for range 30 {
		moduli = append(moduli, 1+chance.Intn(bound), bound-chance.Intn(1000))
	}
	for _, p := range moduli {
		for _, a := range bases(chance, p) {
			for _, k := range []int{0, 1, 2, 3, p - 1, p, p + 1, 1 << 62, math.MaxInt, math.MaxInt - 1, chance.Int(), chance.Int() >> chance.Intn(63)} {
				if got, want := prime.Power(a, k, p), raised(a, k, p); got != want {
					t.Fatalf("%d to the power of %d modulo %d: %d; want %d", a, k, p, got, want)
				}
			}
		}
	}
}

// P8.1: 0 where p is below 1 or above 2^31, or k below 0.
func TestP8_1_PowerBeyond(t *testing.T) {
	numbers := []int{math.MinInt, -bound, -7, -1, 0, 1, 2, 7, greatest, bound, math.MaxInt}
	for _, p := range []int{0, -1, -2, -7, -greatest, -bound, math.MinInt, bound + 1, bound + 2, 2147483659, 1 << 32, 1<<32 + 7, 1 << 62, math.MaxInt} {
		for _, a := range numbers {
			for _, k := range numbers {
				if got := prime.Power(a, k, p); got != 0 {
					t.Fatalf("%d to the power of %d modulo %d: %d; want 0", a, k, p, got)
				}
			}
		}
	}
	for _, k := range []int{-1, -2, -3, -6, -7, -greatest, -bound, math.MinInt, math.MinInt + 1, math.MinInt + 3} {
		for _, a := range numbers {
			for _, p := range []int{1, 2, 3, 4, 7, 251, greatest, bound} {
				if got := prime.Power(a, k, p); got != 0 {
					t.Fatalf("%d to the power of %d modulo %d: %d; want 0", a, k, p, got)
				}
			}
		}
	}
}

// P8.2: a number times its inverse is 1, modulo each prime: of all numbers of the small ones, and of chosen ones of the great; and the inverse's inverse is the number's rest.
func TestP8_2_TimesInverse(t *testing.T) {
	hold := func(a, p int) {
		t.Helper()
		b, err := prime.Inverse(a, p)
		if err != nil || b < 1 || b >= p || product(a, b, p) != 1 {
			t.Fatalf("%d times %d isn't 1 modulo %d: %v", a, b, p, err)
		}
		if back, err := prime.Inverse(b, p); err != nil || back != rested(a, p) {
			t.Fatalf("of %d modulo %d: %d, and of that %d, %v", a, p, b, back, err)
		}
	}
	chance := rand.New(rand.NewSource(86))
	for _, p := range primes() {
		for a := 1; a < p && a <= 251; a++ {
			hold(a, p)
			hold(p-a, p)
			hold(-a, p)
			hold(p+a, p)
		}
		for _, a := range bases(chance, p) {
			if rested(a, p) > 0 {
				hold(a, p)
			}
		}
	}
}

// P8.2: a number to the power of a prime is that number, modulo the prime; to the power of one less it is 1, if it is no multiple.
func TestP8_2_PowerOfPrime(t *testing.T) {
	hold := func(a, p int) {
		t.Helper()
		if got := prime.Power(a, p, p); got != rested(a, p) {
			t.Fatalf("%d to the power of %d: %d; want %d", a, p, got, rested(a, p))
		}
		want := 1
		if rested(a, p) == 0 {
			want = 0
		}
		if got := prime.Power(a, p-1, p); got != want {
			t.Fatalf("%d to the power of %d modulo %d: %d; want %d", a, p-1, p, got, want)
		}
	}
	chance := rand.New(rand.NewSource(87))
	for _, p := range primes() {
		for a := 0; a < p && a <= 251; a++ {
			hold(a, p)
			hold(p-1-a, p)
			hold(-a, p)
			hold(p+a, p)
		}
		for _, a := range bases(chance, p) {
			hold(a, p)
		}
	}
}

// P8.2: it holds of the primes that this layer lists and finds, too.
func TestP8_2_OfAllListed(t *testing.T) {
	list := prime.List(10000)
	for n := 1 << 20; n < bound/2; n *= 3 {
		p, err := prime.Next(n)
		if err != nil {
			t.Fatal(err)
		}
		list = append(list, p)
	}
	if len(list) < 1229 {
		t.Fatalf("%d primes", len(list))
	}
	for _, p := range list {
		for _, a := range []int{1, 2, 3, p / 2, p - 2, p - 1, p + 1, -1, -2} {
			if got := prime.Power(a, p, p); got != rested(a, p) {
				t.Fatalf("%d to the power of %d: %d", a, p, got)
			}
			if rested(a, p) == 0 {
				continue
			}
			if b, err := prime.Inverse(a, p); err != nil || product(a, b, p) != 1 {
				t.Fatalf("%d times %d isn't 1 modulo %d: %v", a, b, p, err)
			}
		}
	}
}
