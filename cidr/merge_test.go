package cidr_test

import (
	"bytes"
	"math/rand"
	"slices"
	"testing"

	"linkboy/addr"
	"linkboy/api"
	"linkboy/cidr"
)

// list is the cidrs of right texts.
func list(texts ...string) []api.Cidr {
	all := []api.Cidr{}
	for _, s := range texts {
		c, err := cidr.Parse(s)
		if err != nil {
			panic(s)
		}
		all = append(all, c)
	}
	return all
}

// plainly is what Merge is told to be, each held against each.
func plainly(all []api.Cidr) []api.Cidr {
	merged := []api.Cidr{}
	for _, c := range all {
		other := func(d api.Cidr) bool { return d != c && cidr.Covers(d, c) }
		if cidr.Right(c) && !slices.ContainsFunc(all, other) && !slices.Contains(merged, c) {
			merged = append(merged, c)
		}
	}
	slices.SortFunc(merged, cidr.Compare)
	return merged
}

// P3.1: those that no other one covers, rising, each once.
func TestP3_1_Merge(t *testing.T) {
	for _, x := range []struct{ from, want []api.Cidr }{
		{nil, nil},
		{[]api.Cidr{}, nil},
		{wrongs(), nil},
		{list("10.0.0.0/8"), list("10.0.0.0/8")},
		{list("10.0.0.0/8", "10.0.0.0/8", "10.0.0.0/8"), list("10.0.0.0/8")},
		{list("10.0.0.0/8", "9.0.0.0/8"), list("9.0.0.0/8", "10.0.0.0/8")},
		{list("10.0.0.0/16", "10.0.0.0/8", "10.0.0.0/24"), list("10.0.0.0/8")},
		{list("10.0.0.0/8", "10.0.0.0/16", "10.1.0.0/16", "10.2.0.0/16", "11.0.0.0/8"), list("10.0.0.0/8", "11.0.0.0/8")},
		{list("10.1.1.1/32", "10.1.0.0/16", "10.2.1.1/32", "10.0.0.0/8"), list("10.0.0.0/8")},
		{list("10.1.1.1/32", "10.1.0.0/16", "10.2.1.1/32"), list("10.1.0.0/16", "10.2.1.1/32")},
		// Neighbours that fill a greater one are not made one: neither covers the other.
		{list("10.0.0.0/9", "10.128.0.0/9"), list("10.0.0.0/9", "10.128.0.0/9")},
		{list("0.0.0.0/1", "128.0.0.0/1"), list("0.0.0.0/1", "128.0.0.0/1")},
		{list("::1/128", "0.0.0.0/0", "::/0", "1.2.3.4/32"), list("0.0.0.0/0", "::/0")},
		{list("::/0", "10.0.0.0/8"), list("10.0.0.0/8", "::/0")},
		{list("a00::/8", "10.0.0.0/8", "::/128", "0.0.0.0/32"), list("0.0.0.0/32", "10.0.0.0/8", "::/128", "a00::/8")},
		{append(wrongs(), list("10.0.0.0/8", "10.1.0.0/16")...), list("10.0.0.0/8")},
		{append(list("10.1.0.0/16", "::1/128"), wrongs()...), list("10.1.0.0/16", "::1/128")},
	} {
		if got := cidr.Merge(x.from); !slices.Equal(got, x.want) {
			t.Fatalf("%v merged: %v; want %v", x.from, got, x.want)
		}
	}
}

// crowd is cidrs that often cover each other, some of them twice, some not right, in any order.
func crowd(chance *rand.Rand) []api.Cidr {
	all := []api.Cidr{}
	for range chance.Intn(14) {
		c := cut(chance)
		switch chance.Intn(8) {
		case 0:
			c = wrongs()[chance.Intn(len(wrongs()))]
		case 1, 2, 3:
			if len(all) > 0 {
				c = near(chance, all[chance.Intn(len(all))])
			}
		}
		all = append(all, c)
	}
	return all
}

// near is a cidr around another one, or in it, or the same.
func near(chance *rand.Rand, c api.Cidr) api.Cidr {
	a := c.Addr
	if chance.Intn(2) > 0 {
		a.B[chance.Intn(4)] ^= byte(1 << chance.Intn(8))
	}
	d, err := cidr.Of(a, max(0, c.Bits+chance.Intn(9)-4))
	if err != nil {
		return c
	}
	return d
}

// P3.1: Merge is what each held against each comes to, whatever the order.
func TestP3_1_MergeAgainstPlain(t *testing.T) {
	chance := rand.New(rand.NewSource(36))
	for range 20000 {
		all := crowd(chance)
		want := plainly(all)
		if got := cidr.Merge(all); !slices.Equal(got, want) {
			t.Fatalf("%v merged: %v; want %v", all, got, want)
		}
		chance.Shuffle(len(all), func(i, k int) { all[i], all[k] = all[k], all[i] })
		if got := cidr.Merge(all); !slices.Equal(got, want) {
			t.Fatalf("%v merged in another order: %v; want %v", all, got, want)
		}
	}
}

// P3.2: just the addresses that one of all contains are contained behind a merge, at the ends of every cidr and around them.
func TestP3_2_ContainTheSame(t *testing.T) {
	chance := rand.New(rand.NewSource(37))
	for range 10000 {
		all := crowd(chance)
		merged := cidr.Merge(all)
		for _, a := range asked(chance, all) {
			want := slices.ContainsFunc(all, func(c api.Cidr) bool { return cidr.Contains(c, a) })
			if cidr.Any(all, a) != want || cidr.Any(merged, a) != want {
				t.Fatalf("%v: %v of %v, %v of %v; want %v", a, cidr.Any(all, a), all, cidr.Any(merged, a), merged, want)
			}
		}
	}
}

// asked is the first and the last address of each cidr, those beside them, and some more.
func asked(chance *rand.Rand, all []api.Cidr) []api.Addr {
	asks := []api.Addr{{}, {Six: true}, bad(5), some(chance), some(chance)}
	for _, c := range all {
		last := c.Addr
		for bit := max(c.Bits, 0); bit < addr.Bits(last); bit++ {
			last.B[bit/8] |= 128 >> (bit % 8)
		}
		asks = append(asks, c.Addr, last, step(c.Addr, -1), step(last, 1))
	}
	return asks
}

// step is the address one further, or one back, round the end.
func step(a api.Addr, by int) api.Addr {
	for i := addr.Bits(a)/8 - 1; i >= 0; i-- {
		n := int(a.B[i]) + by
		a.B[i] = byte(n)
		if n >= 0 && n < 256 {
			break
		}
	}
	return a
}

// P3.2: every set of the cidrs of up to three bits, with every beginning of three bits asked.
func TestP3_2_AllSmallSets(t *testing.T) {
	for _, six := range []bool{false, true} {
		tree := []api.Cidr{}
		for bits := range 4 {
			for start := range 1 << bits {
				c := api.Cidr{Addr: api.Addr{Six: six}, Bits: bits}
				c.Addr.B[0] = byte(start << (8 - bits))
				tree = append(tree, c)
			}
		}
		for set := range 1 << len(tree) {
			all := []api.Cidr{}
			want := [8]bool{}
			for i, c := range tree {
				if set>>i&1 == 0 {
					continue
				}
				all = append([]api.Cidr{c}, all...)
				from := int(c.Addr.B[0]) >> 5
				for k := range 8 >> c.Bits {
					want[from+k] = true
				}
			}
			merged := cidr.Merge(all)
			for start, is := range want {
				a := api.Addr{Six: six}
				a.B[0], a.B[3] = byte(start<<5|9), 77
				if cidr.Any(merged, a) != is {
					t.Fatalf("%v of %v contains %v: %v", merged, all, a, !is)
				}
			}
		}
	}
}

// P3.2: a merge of what is merged is the same again.
func TestP3_2_MergeTwice(t *testing.T) {
	chance := rand.New(rand.NewSource(38))
	for range 5000 {
		once := cidr.Merge(crowd(chance))
		if got := cidr.Merge(once); !slices.Equal(got, once) {
			t.Fatalf("%v merged again: %v", once, got)
		}
	}
}

// P3.1: nothing that is given is changed, and what is answered is the caller's.
func TestP3_1_OwnMemory(t *testing.T) {
	room := list("11.0.0.0/8", "10.1.0.0/16", "10.0.0.0/8", "::/0", "10.0.0.0/8", "9.0.0.0/8", "1.1.1.1/32")
	room[3].Bits = 200
	kept := slices.Clone(room)
	given := room[:5]
	first, second := cidr.Merge(given), cidr.Merge(given)
	cidr.Any(given, at("10.0.0.1"))
	if !slices.Equal(room, kept) {
		t.Fatal("the list, or the room behind it, was changed")
	}
	clear(first[:cap(first)])
	if !slices.Equal(room, kept) || !slices.Equal(second, list("10.0.0.0/8", "11.0.0.0/8")) {
		t.Fatal("a merged list shares its memory")
	}
	single := list("10.0.0.0/8")
	clear(cidr.Merge(single))
	if !slices.Equal(single, list("10.0.0.0/8")) {
		t.Fatal("a merged list of one shares its memory")
	}
	put, other := cidr.Put(of("10.0.0.0", 8)), cidr.Put(of("10.0.0.0", 8))
	clear(put[:cap(put)])
	if !bytes.Equal(other, []byte{4, 10, 0, 0, 0, 8}) {
		t.Fatal("answers share their bytes")
	}
}
