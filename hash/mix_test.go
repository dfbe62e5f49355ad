package hash_test

import (
	"math/rand"
	"testing"

	"linkboy/hash"
)

// alone holds that no two unlike ones of the numbers are mixed alike, or unmixed alike.
func alone(t *testing.T, numbers []uint64) {
	t.Helper()
	mixes, unmixes := map[uint64]uint64{}, map[uint64]uint64{}
	for _, h := range numbers {
		if other, is := mixes[hash.Mix(h)]; is && other != h {
			t.Fatalf("%#x and %#x are mixed alike: %#x", other, h, hash.Mix(h))
		}
		if other, is := unmixes[hash.Unmix(h)]; is && other != h {
			t.Fatalf("%#x and %#x are unmixed alike: %#x", other, h, hash.Unmix(h))
		}
		mixes[hash.Mix(h)], unmixes[hash.Unmix(h)] = h, h
	}
}

// P7.2: numbers in a row, from the least, the greatest and the middle ones on.
func TestP7_2_Rows(t *testing.T) {
	var numbers []uint64
	for n := range uint64(1 << 15) {
		numbers = append(numbers, n, ^n, 1<<63+n, 1<<32+n, n<<49)
	}
	alone(t, numbers)
}

// P7.2: numbers that differ by one or two bits from one, wherever those stand.
func TestP7_2_NearOnes(t *testing.T) {
	for _, h := range []uint64{0, ^uint64(0), 0x0123456789abcdef, 0x8000000080000000, hash.Unmix(0), hash.Unmix(1 << 63)} {
		var numbers []uint64
		for i := range 64 {
			for k := range 64 {
				numbers = append(numbers, h^1<<i^1<<k, h^1<<i)
			}
		}
		alone(t, numbers)
	}
}

// P7.2: numbers that are alike but for what is folded into their low bits, so that a fold that loses something would have them alike.
func TestP7_2_HighHalves(t *testing.T) {
	chance := rand.New(rand.NewSource(76))
	var numbers []uint64
	for range 1 << 16 {
		n := chance.Uint64()
		numbers = append(numbers, n, n^n>>33, n|n>>33, n>>33)
	}
	alone(t, numbers)
}

// P7.2: whatever is mixed tells what it was mixed of, and whatever is unmixed likewise: by that no two can be alike.
func TestP7_2_BackAndForth(t *testing.T) {
	hold := func(h uint64) {
		t.Helper()
		if got := hash.Unmix(hash.Mix(h)); got != h {
			t.Fatalf("%#x, mixed and unmixed, is %#x", h, got)
		}
		if got := hash.Mix(hash.Unmix(h)); got != h {
			t.Fatalf("%#x, unmixed and mixed, is %#x", h, got)
		}
	}
	for _, h := range edges() {
		hold(h)
	}
	for n := range uint64(1 << 16) {
		hold(n)
		hold(n << 16)
		hold(n << 32)
		hold(n << 48)
	}
	chance := rand.New(rand.NewSource(77))
	for range 1 << 18 {
		hold(chance.Uint64())
	}
}
