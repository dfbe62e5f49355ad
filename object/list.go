package object

import (
	"cmp"

	"linkboy/api"
	"linkboy/octets"
)

// all tells whether there are at most so many, and each is right.
func all[T any](list []T, most int, right func(T) bool) bool {
	if len(list) > most {
		return false
	}
	for _, x := range list {
		if !right(x) {
			return false
		}
	}
	return true
}

// differ tells whether no two are alike in what key answers.
func differ[T any, K comparable](list []T, key func(T) K) bool {
	seen := map[K]bool{}
	for _, x := range list {
		seen[key(x)] = true
	}
	return len(seen) == len(list)
}

// rising tells whether each is greater than the one ahead of it.
func rising[T cmp.Ordered](list []T) bool {
	for i := 1; i < len(list); i++ {
		if list[i-1] >= list[i] {
			return false
		}
	}
	return true
}

// putList is a list's bytes: how many there are, and each one's.
func putList[T any](list []T, put func(T) []byte) []byte {
	b := number(len(list), countSize)
	for _, x := range list {
		b = append(b, put(x)...)
	}
	return b
}

// readList reads a list of at most so many.
func readList[T any](c *octets.Cursor, most int, read func(*octets.Cursor) T) []T {
	count := c.Num(countSize)
	if count > most {
		c.Fail(api.ErrFull)
	}
	var list []T
	// Behind a failure all that is read is zero: no list goes on with that.
	for c.Err() == nil && len(list) < count {
		list = append(list, read(c))
	}
	return list
}

// readWhole reads an object that must be right at its end: the zero one, if it can't be read.
func readWhole[T any](c *octets.Cursor, read func() T, right func(T) bool) T {
	var none T
	if c == nil {
		return none
	}
	whole := read()
	if !right(whole) {
		// Of an object that couldn't be read the cursor knows an error already, and keeps that.
		c.Fail(api.ErrForm)
	}
	if c.Err() != nil {
		return none
	}
	return whole
}
