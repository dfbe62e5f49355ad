package dial_test

import (
	"math"
	"math/big"
	"math/rand"
	"testing"

	"linkboy/dial"
)

// alikePart tells whether two parts are alike bit by bit; of what is no number any is as good as any.
func alikePart(a, b float64) bool {
	return math.Float64bits(a) == math.Float64bits(b) || math.IsNaN(a) && math.IsNaN(b)
}

// alike tells whether two points are alike bit by bit.
func alike(a, b complex128) bool {
	return alikePart(real(a), real(b)) && alikePart(imag(a), imag(b))
}

// turned is a part with its sign bit turned.
func turned(x float64) float64 { return math.Float64frombits(math.Float64bits(x) ^ 1<<63) }

// parts is parts of points: noughts of both signs, whole numbers, broken ones, the least and the greatest, and none.
func parts() []float64 {
	half := []float64{
		0, 1, 2, 3, 0.5, 0.1, 1.5, 998, 999, 999.5, 1000, 1e6, 1 << 53, 1<<53 - 1, 1e300, math.Nextafter(1, 2), math.Nextafter(999, 1000),
		math.SmallestNonzeroFloat64, 0x1p-1022, math.MaxFloat64, 1 << 31, 1 << 32, 1 << 63, 1 << 64, math.Inf(1),
	}
	list := []float64{math.NaN()}
	for _, x := range half {
		list = append(list, x, turned(x))
	}
	return list
}

// points is points of all these parts.
func points() []complex128 {
	var list []complex128
	for _, a := range parts() {
		for _, b := range parts() {
			list = append(list, complex(a, b))
		}
	}
	return list
}

// turns is numbers of quarter turns, from the least to the greatest.
func turns() []int {
	list := []int{
		math.MinInt, math.MinInt + 1, math.MinInt + 2, math.MinInt + 3, math.MinInt + 4, -1 << 62, -1<<32 - 1, -1 << 31,
		1<<31 - 1, 1<<32 + 3, 1 << 62, math.MaxInt - 3, math.MaxInt - 2, math.MaxInt - 1, math.MaxInt,
	}
	for n := -300; n <= 600; n++ {
		list = append(list, n)
	}
	return list
}

// leaves is what a number leaves, divided by 4, never below 0.
func leaves(n int) int {
	return int(new(big.Int).Mod(big.NewInt(int64(n)), big.NewInt(4)).Int64())
}

// quarter is 1, i, -1 or -i, made of its parts, so that each nought is above 0.
func quarter(n int) complex128 {
	switch leaves(n) {
	case 0:
		return complex(1, 0)
	case 1:
		return complex(0, 1)
	case 2:
		return complex(-1, 0)
	}
	return complex(0, -1)
}

// P11.1: i to the power n, again and again, and below 0 too.
func TestP11_1_Quarter(t *testing.T) {
	for n, want := range map[int]complex128{
		0: 1, 1: 1i, 2: -1, 3: -1i, 4: 1, 5: 1i, 250: -1, -1: -1i, -2: -1, -3: 1i, -4: 1, -5: -1i,
		math.MaxInt: -1i, math.MaxInt - 1: -1, math.MinInt: 1, math.MinInt + 1: 1i, math.MinInt + 3: -1i,
	} {
		if got := dial.Quarter(n); !alike(got, want) {
			t.Errorf("%d: %v; want %v", n, got, want)
		}
	}
	for _, n := range turns() {
		if got := dial.Quarter(n); !alike(got, quarter(n)) {
			t.Errorf("%d: %v; want %v", n, got, quarter(n))
		}
	}
}

// P11.1: a point turned keeps its parts, to the last bit, with their places and signs as told.
func TestP11_1_Spin(t *testing.T) {
	inf := math.Inf(1)
	for _, x := range []struct {
		z    complex128
		n    int
		want complex128
	}{
		{complex(3, 4), 0, complex(3, 4)}, {complex(3, 4), 1, complex(-4, 3)}, {complex(3, 4), 2, complex(-3, -4)}, {complex(3, 4), 3, complex(4, -3)},
		{complex(3, 4), -1, complex(4, -3)}, {complex(3, 4), -2, complex(-3, -4)}, {complex(3, 4), -3, complex(-4, 3)}, {complex(3, 4), 400, complex(3, 4)},
		{0, 1, complex(turned(0), 0)}, {0, 2, complex(turned(0), turned(0))}, {0, 3, complex(0, turned(0))},
		{complex(turned(0), 5), 1, complex(-5, turned(0))}, {complex(inf, 1), 1, complex(-1, inf)}, {complex(inf, 1), 2, complex(-inf, -1)},
		{complex(1, -inf), 3, complex(-inf, -1)}, {complex(math.NaN(), 2), 1, complex(-2, math.NaN())}, {complex(0, math.NaN()), 4, complex(0, math.NaN())},
	} {
		if got := dial.Spin(x.z, x.n); !alike(got, x.want) {
			t.Errorf("%v by %d: %v; want %v", x.z, x.n, got, x.want)
		}
	}
	for _, z := range points() {
		a, b := real(z), imag(z)
		want := [4]complex128{z, complex(turned(b), a), complex(turned(a), turned(b)), complex(b, turned(a))}
		for _, n := range []int{math.MinInt, math.MinInt + 1, -7, -6, -5, -4, -3, -2, -1, 0, 1, 2, 3, 4, 5, 250, 251, math.MaxInt - 1, math.MaxInt} {
			if got := dial.Spin(z, n); !alike(got, want[leaves(n)]) {
				t.Fatalf("%v by %d: %v; want %v", z, n, got, want[leaves(n)])
			}
		}
	}
	for _, n := range turns() {
		want := [4]complex128{complex(3, -4), complex(4, 3), complex(-3, 4), complex(-4, -3)}
		if got := dial.Spin(complex(3, -4), n); !alike(got, want[leaves(n)]) {
			t.Fatalf("3-4i by %d: %v; want %v", n, got, want[leaves(n)])
		}
	}
}

// P11.1: each part's square is rounded by itself, and so is their sum; the wants are a separate script's.
func TestP11_1_Norm(t *testing.T) {
	inf, none := math.Inf(1), math.NaN()
	for z, want := range map[complex128]float64{
		0: 0, 1: 1, 1i: 1, -1i: 1, complex(3, 4): 25, complex(-3, 4): 25, complex(-5, -12): 169, complex(0, 63): 3969, complex(0.5, 0): 0.25,
		complex(turned(0), turned(0)): 0, complex(1e200, 0): inf, complex(1e-200, 1e-200): 0, complex(1, 1e-200): 1,
		complex(inf, 0): inf, complex(0, -inf): inf, complex(-inf, inf): inf,
		complex(-0x1.4cf89a9d51b38p-1, -0x1.e682c287627c0p-2): 0x1.4c1d78e682f4cp-1,
		complex(-0x1.39324a7d3bebbp+1, -0x1.15b3d1aa7840dp+1): 0x1.5635530899bb4p+3,
		complex(-0x1.b5d889f2d3d80p-1, -0x1.211166c725e11p+0): 0x1.00cfc5623d09ap+1,
		complex(-0x1.bd9ae4e5daa96p+0, -0x1.18a9db1056d38p+1): 0x1.f59cf74687cfcp+2,
		complex(-0x1.ca82cc3e8e278p-1, 0x1.2fdc87117a266p+1):  0x1.9bff4a0e0ae66p+2,
		complex(0x1.490be0c211340p+0, 0x1.87c21e5aa98ccp+0):   0x1.ff390a156e93cp+1,
	} {
		if got := dial.Norm(z); !alikePart(got, want) {
			t.Errorf("%v: %v; want %v", z, got, want)
		}
	}
	for _, z := range []complex128{complex(none, 0), complex(0, none), complex(none, none), complex(inf, none), complex(none, -inf)} {
		if got := dial.Norm(z); !math.IsNaN(got) {
			t.Errorf("%v: %v; want no number", z, got)
		}
	}
}

// square is a part's square, rounded once.
func square(x float64) float64 {
	f, _ := new(big.Float).SetPrec(200).Mul(big.NewFloat(x), big.NewFloat(x)).Float64()
	return f
}

// P11.1: the norm of points by chance is that of sums and products without bound, rounded where the chapter's words round.
func TestP11_1_NormByChance(t *testing.T) {
	chance := rand.New(rand.NewSource(111))
	for range 20000 {
		a, b := chance.NormFloat64()*math.Pow(2, float64(chance.Intn(40)-20)), chance.NormFloat64()
		want, _ := new(big.Float).SetPrec(2000).Add(big.NewFloat(square(a)), big.NewFloat(square(b))).Float64()
		if got := dial.Norm(complex(a, b)); !alikePart(got, want) {
			t.Fatalf("%v, %v: %v; want %v", a, b, got, want)
		}
	}
}

// P11.1: the imaginary part's sign is turned, also that of a nought; the real part stays.
func TestP11_1_Mirror(t *testing.T) {
	for _, x := range []struct{ z, want complex128 }{
		{complex(3, 4), complex(3, -4)}, {complex(-3, -4), complex(-3, 4)}, {1, complex(1, turned(0))}, {complex(1, turned(0)), 1},
		{complex(turned(0), 2), complex(turned(0), -2)}, {complex(math.Inf(-1), math.Inf(1)), complex(math.Inf(-1), math.Inf(-1))},
		{complex(math.NaN(), 7), complex(math.NaN(), -7)}, {complex(7, math.NaN()), complex(7, math.NaN())},
	} {
		if got := dial.Mirror(x.z); !alike(got, x.want) {
			t.Errorf("%v: %v; want %v", x.z, got, x.want)
		}
	}
	for _, z := range points() {
		want := complex(real(z), turned(imag(z)))
		if got := dial.Mirror(z); !alike(got, want) || !alike(dial.Mirror(got), z) {
			t.Fatalf("%v: %v, and back %v; want %v", z, got, dial.Mirror(got), want)
		}
	}
}
