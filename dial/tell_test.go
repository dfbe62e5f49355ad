package dial_test

import (
	"fmt"
	"math"
	"testing"

	"linkboy/dial"
)

// P11.1: the texts of points of whole parts, with signs as told.
func TestP11_1_Tell(t *testing.T) {
	for want, z := range map[string]complex128{
		"0+0i": 0, "0+1i": 1i, "0-1i": -1i, "1+0i": 1, "-1+0i": -1, "3+4i": complex(3, 4), "3-4i": complex(3, -4), "-3+4i": complex(-3, 4), "-3-4i": complex(-3, -4),
		"999+999i": complex(999, 999), "-999-999i": complex(-999, -999), "-999+999i": complex(-999, 999), "10-100i": complex(10, -100), "0-999i": complex(0, -999), "998-7i": complex(998, -7),
	} {
		if got := dial.Tell(z); got != want {
			t.Errorf("%v: %q; want %q", z, got, want)
		}
	}
	for a := -1003; a <= 1003; a++ {
		for _, b := range []int{-1001, -1000, -999, -998, -120, -10, -9, -1, 0, 1, 9, 10, 120, 998, 999, 1000, 1001} {
			want := ""
			if a >= -999 && a <= 999 && b >= -999 && b <= 999 {
				want = fmt.Sprintf("%d%+di", a, b)
			}
			if got := dial.Tell(complex(float64(a), float64(b))); got != want {
				t.Fatalf("%d and %d: %q; want %q", a, b, got, want)
			}
			want = ""
			if a >= -999 && a <= 999 && b >= -999 && b <= 999 {
				want = fmt.Sprintf("%d%+di", b, a)
			}
			if got := dial.Tell(complex(float64(b), float64(a))); got != want {
				t.Fatalf("%d and %d: %q; want %q", b, a, got, want)
			}
		}
	}
}

// P11.1: a nought below 0 is the whole number 0.
func TestP11_1_TellNoughts(t *testing.T) {
	low := turned(0)
	for want, list := range map[string][]complex128{
		"0+0i": {complex(low, 0), complex(0, low), complex(low, low)},
		"5+0i": {complex(5, low)}, "-5+0i": {complex(-5, low)}, "0+5i": {complex(low, 5)}, "0-5i": {complex(low, -5)},
	} {
		for _, z := range list {
			if got := dial.Tell(z); got != want {
				t.Errorf("%v: %q; want %q", z, got, want)
			}
		}
	}
}

// P11.1: what isn't whole, isn't small enough, or is no number, has no text, whatever the other part is.
func TestP11_1_TellNothing(t *testing.T) {
	small := map[float64]bool{0: true, 1: true, 2: true, 3: true, 998: true, 999: true}
	for _, z := range points() {
		if is := small[math.Abs(real(z))] && small[math.Abs(imag(z))]; is != (dial.Tell(z) != "") {
			t.Errorf("%v: %q", z, dial.Tell(z))
		}
	}
	for _, x := range []float64{0.5, -0.5, 0.999, 1e-300, 998.5, 999.0001, -999.0001, 1000, -1000, 1 << 32, 1<<32 + 5, 1 << 62, 1 << 63, -1 << 63, 1 << 64, 1e308} {
		for _, z := range []complex128{complex(x, 0), complex(0, x), complex(x, x), complex(x, -7), complex(999, x)} {
			if got := dial.Tell(z); got != "" {
				t.Errorf("%v: %q; want nothing", z, got)
			}
		}
	}
}
