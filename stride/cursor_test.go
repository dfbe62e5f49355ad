package stride_test

import (
	"math/rand"
	"slices"
	"testing"

	"linkboy/stride"
)

// taken is what Next tells so many times.
func taken(c *stride.Cursor, times int) []int {
	var list []int
	for range times {
		list = append(list, c.Next())
	}
	return list
}

// P9.1: a cursor begins with number 0, and nothing is done.
func TestP9_1_Cursor(t *testing.T) {
	for _, s := range append(every(), wrong()...) {
		c := s.Cursor()
		if got := c.Done(); got != 0 {
			t.Fatalf("%v: %d at the beginning", s, got)
		}
		if got, want := c.Next(), s.Place(0); got != want {
			t.Fatalf("%v: first %d; want %d", s, got, want)
		}
	}
}

// P9.1: the chapter's example round and round, and the places one behind the other of every order.
func TestP9_1_Next(t *testing.T) {
	round := []int{3, 5, 0, 2, 4, 6, 1}
	got := taken(stride.Stride{Size: 7, Offset: 3, Skip: 2}.Cursor(), 24)
	if want := slices.Concat(round, round, round, round[:3]); !slices.Equal(got, want) {
		t.Fatalf("%v; want %v", got, want)
	}
	for _, s := range every() {
		order := walked(s)
		if got, want := taken(s.Cursor(), 3*s.Size), slices.Concat(order, order, order); !slices.Equal(got, want) {
			t.Fatalf("%v: %v; want %v", s, got, want)
		}
	}
	c := stride.Stride{Size: 251, Offset: 250, Skip: 250}.Cursor()
	for i := range 300000 {
		if got, want := c.Next(), 250-i%251; got != want {
			t.Fatalf("number %d: %d; want %d", i, got, want)
		}
	}
}

// P9.1: -1 again and again of a stride that isn't right, and of a cursor that no stride made; those calls are counted as well.
func TestP9_1_NextWithoutOrder(t *testing.T) {
	hold := func(c *stride.Cursor, of string) {
		t.Helper()
		for i := range 20 {
			if got := c.Done(); got != i {
				t.Fatalf("%s: %d done; want %d", of, got, i)
			}
			if got := c.Next(); got != -1 {
				t.Fatalf("%s: %d; want -1", of, got)
			}
		}
	}
	for _, s := range wrong() {
		hold(s.Cursor(), "a wrong stride")
	}
	hold(new(stride.Cursor), "no stride")
}

// P9.1: Done is how often Next was called, beyond the first round too, and asking it changes nothing.
func TestP9_1_Done(t *testing.T) {
	for _, size := range []int{2, 3, 7, 251} {
		s := stride.Stride{Size: size, Offset: size - 1, Skip: 1}
		order, c := walked(s), s.Cursor()
		for i := range 3*size + 1 {
			if one, two := c.Done(), c.Done(); one != i || two != i {
				t.Fatalf("of size %d: %d, and then %d; want %d", size, one, two, i)
			}
			if got, want := c.Next(), order[i%size]; got != want {
				t.Fatalf("of size %d, number %d: %d; want %d", size, i, got, want)
			}
		}
	}
}

// P9.1: each cursor goes on its own, whatever others of the same stride do, in whatever order they are called, and whatever becomes of the variable that the stride was in.
func TestP9_1_CursorsApart(t *testing.T) {
	chance := rand.New(rand.NewSource(93))
	s := stride.Stride{Size: 7, Offset: 3, Skip: 2}
	order := walked(s)
	cursors := []*stride.Cursor{s.Cursor(), s.Cursor(), s.Cursor()}
	s.Size, s.Offset, s.Skip = 11, 0, 1
	calls := make([]int, len(cursors))
	for range 1000 {
		i := chance.Intn(len(cursors))
		if got, want := cursors[i].Next(), order[calls[i]%7]; got != want {
			t.Fatalf("cursor %d: %d; want %d", i, got, want)
		}
		calls[i]++
		for k, c := range cursors {
			if c.Done() != calls[k] {
				t.Fatalf("cursor %d: %d done; want %d", k, c.Done(), calls[k])
			}
		}
	}
	if got, want := taken(s.Cursor(), 3), []int{0, 1, 2}; !slices.Equal(got, want) {
		t.Fatalf("of the other stride: %v; want %v", got, want)
	}
}

// P9.1: a cursor that is copied is another one from there on: neither moves the other.
func TestP9_1_CursorCopied(t *testing.T) {
	one := stride.Stride{Size: 7, Offset: 3, Skip: 2}.Cursor()
	taken(one, 2)
	two := *one
	if got, want := taken(one, 3), []int{0, 2, 4}; !slices.Equal(got, want) || two.Done() != 2 {
		t.Fatalf("%v; want %v; the copy: %d done", got, want, two.Done())
	}
	if got, want := taken(&two, 3), []int{0, 2, 4}; !slices.Equal(got, want) || one.Done() != 5 {
		t.Fatalf("the copy: %v; want %v; %d done", got, want, one.Done())
	}
}
