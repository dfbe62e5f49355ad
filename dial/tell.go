package dial

import (
	"math"
	"strconv"
)

const mostTold = 999 // is the greatest amount of a part that is told

// Tell is a point's text.
func Tell(z complex128) string {
	if !isTold(real(z)) || !isTold(imag(z)) {
		return ""
	}
	// A nought is told as a whole number is, without a sign of its own.
	return strconv.Itoa(int(real(z))) + sign(int(imag(z))) + strconv.Itoa(int(math.Abs(imag(z)))) + "i"
}

// isTold tells whether a part is a whole number that is small enough.
func isTold(part float64) bool {
	return part == math.Trunc(part) && math.Abs(part) <= mostTold
}

// sign is what stands ahead of the imaginary part's amount.
func sign(n int) string {
	if n < 0 {
		return "-"
	}
	return "+"
}
