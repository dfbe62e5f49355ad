package stride_test

import (
	"math"
	"slices"
	"testing"

	"linkboy/stride"
)

// isRound tells whether places are all those of a size, each once.
func isRound(places []int, size int) bool {
	times := make([]int, size)
	for _, place := range places {
		if place < 0 || place >= size {
			return false
		}
		times[place]++
	}
	return !slices.ContainsFunc(times, func(n int) bool { return n != 1 })
}

// P9.2: the places of every text's stride are all, each once, in every size, and that stride is right.
func TestP9_2_Of(t *testing.T) {
	for _, b := range texts() {
		for _, size := range primes() {
			s, err := stride.Of(b, size)
			if err != nil || !stride.Right(s) || !isRound(s.All(), size) {
				t.Fatalf("of %x in %d: %v, %v: %v", b, size, s, err, s.All())
			}
		}
	}
}

// P9.2: in every size a stride that is right goes through all places, and one whose places wouldn't be all isn't right.
func TestP9_2_Right(t *testing.T) {
	for size := 2; size <= 60; size++ {
		for skip := range size + 1 {
			for _, offset := range []int{0, 1, size / 2, size - 1} {
				s := stride.Stride{Size: size, Offset: offset, Skip: skip}
				if right := stride.Right(s); right && !isRound(walked(s), size) || right != isRound(s.All(), size) {
					t.Fatalf("%v: right is %t, and the places are %v", s, right, s.All())
				}
			}
		}
	}
}

// P9.2: All is all places, each once: of every skip in every size.
func TestP9_2_All(t *testing.T) {
	for _, size := range primes() {
		for skip := 1; skip < size; skip++ {
			s := stride.Stride{Size: size, Offset: (skip * 7) % size, Skip: skip}
			if got := s.All(); len(got) != size || !isRound(got, size) {
				t.Fatalf("%v: %v", s, got)
			}
		}
	}
	for _, s := range every() {
		if got := s.All(); len(got) != s.Size || !isRound(got, s.Size) {
			t.Fatalf("%v: %v", s, got)
		}
	}
}

// P9.2: Place by the numbers 0 to Size - 1, and by as many from any other number on, tells all places, each once.
func TestP9_2_Place(t *testing.T) {
	for _, s := range every() {
		for _, from := range []int{0, 1, -1, -s.Size / 2, -3 * s.Size, 1 << 40, math.MinInt, math.MaxInt - s.Size} {
			var got []int
			for j := range s.Size {
				got = append(got, s.Place(from+j))
			}
			if !isRound(got, s.Size) {
				t.Fatalf("%v, from number %d on: %v", s, from, got)
			}
		}
	}
}

// P9.2: each place has a number of its own, and leads back to it, as that does to the place.
func TestP9_2_When(t *testing.T) {
	for _, s := range every() {
		var got []int
		for n := range s.Size {
			j := s.When(n)
			if back := s.Place(j); back != n {
				t.Fatalf("%v: place %d is number %d, and that is place %d", s, n, j, back)
			}
			if back := s.When(s.Place(n)); back != n {
				t.Fatalf("%v: number %d is place %d, and that is number %d", s, n, s.Place(n), back)
			}
			got = append(got, j)
		}
		if !isRound(got, s.Size) {
			t.Fatalf("%v: numbers %v", s, got)
		}
	}
}

// P9.2: a cursor's first Size calls, and as many from any call on, tell all places, each once; so many are done then.
func TestP9_2_Cursor(t *testing.T) {
	for _, s := range every() {
		c := s.Cursor()
		for round := range 3 {
			if got := taken(c, s.Size); !isRound(got, s.Size) {
				t.Fatalf("%v, round %d: %v", s, round, got)
			}
			if want := (round+1)*s.Size + round; c.Done() != want {
				t.Fatalf("%v, round %d: %d done; want %d", s, round, c.Done(), want)
			}
			c.Next()
		}
	}
}
