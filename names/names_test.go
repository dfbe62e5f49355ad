package names_test

import (
	"bytes"
	"errors"
	"math/rand"
	"regexp"
	"slices"
	"strings"
	"testing"

	"linkboy/api"
	"linkboy/names"
	"linkboy/octets"
)

const figures = "abcdefghijklmnopqrstuvwxyz0123456789"

// form is another way to say what a label is, but for how long it may be.
var form = regexp.MustCompile(`\A[a-z0-9]([-a-z0-9]*[a-z0-9])?\z`)

// isLabel is what Label must tell.
func isLabel(s string) bool { return len(s) <= 15 && form.MatchString(s) }

func key(space, name string) api.Key { return api.Key{Space: space, Name: name} }

// labels is some labels, the shortest and the longest among them.
func labels() []string {
	return []string{"a", "z", "0", "9", "web", "a-b", "a--b", "0-0", "kube-system", "123", "x1", "1x", "a-1-b-2", strings.Repeat("a", 14), strings.Repeat("z", 15), "a" + strings.Repeat("-", 13) + "a"}
}

// wrongs is what is no label.
func wrongs() []string {
	return []string{
		"", " ", "-", "--", "-a", "a-", "-a-", "-0", "0-", "a-b-", "-a-b", strings.Repeat("-", 15), strings.Repeat("-", 16),
		strings.Repeat("a", 16), strings.Repeat("a", 17), strings.Repeat("0", 31), strings.Repeat("a", 255), strings.Repeat("a", 256), strings.Repeat("a", 257), strings.Repeat("a", 256+5), strings.Repeat("b", 70000),
		strings.Repeat("a", 14) + "-", "-" + strings.Repeat("a", 14), strings.Repeat("a", 15) + "-", "-" + strings.Repeat("a", 15), strings.Repeat("a", 7) + "." + strings.Repeat("a", 7),
		"A", "Web", "wEb", "weB", "Z", "a.b", "a_b", "a b", " a", "a ", "a\n", "\na", "a\x00", "\x00", "a/b", "/", "a/", "/a", "*", "a:b", "a,b", "a+b", "`", "{", "@", "[", "a`", "a{", "a:", "a/",
		"\u00e4", "a\u00e4b", "\u0430", "\uff41", "\u0661", "\uff11", "a\u2010b", "\u212a", "\xff", "a\xffb", "\x80", "\xe1", "\xb0", "\x2d\xad", "a\xadb",
	}
}

// noKeys is what is no key: a part is wrong, or both are.
func noKeys() []api.Key {
	list := []api.Key{{}}
	for _, bad := range wrongs() {
		list = append(list, key(bad, "web"), key("a", bad), key(bad, bad))
	}
	return list
}

// some is a label of few different ones, of any length.
func some(chance *rand.Rand) string {
	b := make([]byte, 1+chance.Intn(15))
	for i := range b {
		b[i] = figures[chance.Intn(len(figures))]
		if i > 0 && i < len(b)-1 && chance.Intn(4) == 0 {
			b[i] = '-'
		}
	}
	return string(b)
}

// short is a short text, be it a label or not, of which many differ by little.
func short(chance *rand.Rand) string {
	return []string{"", "a", "b", "aa", "ab", "a-", "-", "A", "/", "\x00", "a\x00", "\xff", "\u00e4", "a/b", "0", "z"}[chance.Intn(16)]
}

// P5.1: a label's bytes are a to z, 0 to 9 and hyphens, and a hyphen is neither first nor last.
func TestP5_1_LabelBytes(t *testing.T) {
	for n := range 256 {
		c := string([]byte{byte(n)})
		whole := strings.Contains(figures, c)
		for s, want := range map[string]bool{
			c: whole, c + c: whole, c + "a": whole, "a" + c: whole, c + "-a": whole, "a-" + c: whole,
			"a" + c + "a": whole || c == "-", "a" + c + c + "9": whole || c == "-", "a-" + c + "-a": whole || c == "-",
			"-" + c: false, c + "-": false, "-" + c + "-": false,
		} {
			if got := names.Label(s); got != want {
				t.Fatalf("%q is a label: %v", s, got)
			}
		}
	}
}

// P5.1: a label has 1 to 15 bytes, whatever place in it a byte has.
func TestP5_1_LabelLength(t *testing.T) {
	for n := range 600 {
		s := strings.Repeat("a", n)
		if got := names.Label(s); got != (n >= 1 && n <= 15) {
			t.Fatalf("%d bytes are a label: %v", n, got)
		}
		for place := range min(n, 40) {
			for _, c := range []string{"-", "0", "9", "z", "A", ".", "\x00", "\xff"} {
				changed := s[:place] + c + s[place+1:]
				if got := names.Label(changed); got != isLabel(changed) {
					t.Fatalf("%q is a label: %v", changed, got)
				}
			}
		}
	}
	if api.MaxLabel != 15 {
		t.Fatal("labels are as long as they were")
	}
}

// P5.1: labels, what is none, and texts made by chance, as the other way tells.
func TestP5_1_Label(t *testing.T) {
	for _, s := range labels() {
		if !names.Label(s) {
			t.Fatalf("%q is a label", s)
		}
	}
	for _, s := range wrongs() {
		if names.Label(s) {
			t.Fatalf("%q is no label", s)
		}
	}
	chance := rand.New(rand.NewSource(51))
	for range 100000 {
		b := make([]byte, chance.Intn(18))
		for i := range b {
			b[i] = "ab09-"[chance.Intn(5)]
			if chance.Intn(40) == 0 {
				b[i] = byte(chance.Intn(256))
			}
		}
		if got := names.Label(string(b)); got != isLabel(string(b)) {
			t.Fatalf("%q is a label: %v", b, got)
		}
	}
}

// P5.1: a key is a space and a name, both labels.
func TestP5_1_Key(t *testing.T) {
	for _, space := range labels() {
		for _, name := range labels() {
			if !names.Key(key(space, name)) {
				t.Fatalf("%q and %q are a key", space, name)
			}
		}
	}
	for _, k := range noKeys() {
		if names.Key(k) {
			t.Fatalf("%q is no key", k)
		}
	}
}

// P5.1: by the spaces, then by the names, byte by byte, be they keys or not.
func TestP5_1_Compare(t *testing.T) {
	row := []api.Key{
		{}, key("", "\x00"), key("", "a"), key("", "\xff"), key("\x00", ""), key("-", "z"),
		key("0", "z"), key("10", "a"), key("9", "a"), key("A", "b"), key("Z", "a"),
		key("a", ""), key("a", "-"), key("a", "0"), key("a", "10"), key("a", "2"), key("a", "B"), key("a", "a"), key("a", "a\x00"), key("a", "a-b"), key("a", "a/b"), key("a", "a0"), key("a", "aa"), key("a", "b"), key("a", "z"), key("a", "\u00e4"), key("a", "\xff"),
		key("a\x00", "a"), key("a-b", "a"), key("a/a", "b"), key("a0", "a"), key("aa", ""), key("aa", "a"), key("ab", "a"), key("b", "a"), key("b", "b"),
		key(strings.Repeat("b", 300), "a"), key("z", ""), key("\u00e4", "a"), key("\uffff", "a"), key("\U00010000", "a"), key("\xff", ""),
	}
	for i, a := range row {
		for k, b := range row {
			want := 0
			if i < k {
				want = -1
			} else if i > k {
				want = 1
			}
			if got := names.Compare(a, b); got != want {
				t.Fatalf("%q against %q: %d; want %d", a, b, got, want)
			}
		}
	}
}

// P5.1: pairs made by chance, as their bytes compare.
func TestP5_1_CompareBytes(t *testing.T) {
	chance := rand.New(rand.NewSource(52))
	for range 50000 {
		a, b := key(short(chance), short(chance)), key(short(chance), short(chance))
		want := bytes.Compare([]byte(a.Space), []byte(b.Space))
		if want == 0 {
			want = bytes.Compare([]byte(a.Name), []byte(b.Name))
		}
		if got := names.Compare(a, b); got != want {
			t.Fatalf("%q against %q: %d; want %d", a, b, got, want)
		}
	}
}

// least takes from keys the least one again and again, and leaves all that are like it out.
func least(list []api.Key) []api.Key {
	left, rising := slices.Clone(list), []api.Key{}
	for len(left) > 0 {
		low := left[0]
		for _, k := range left {
			if k.Space < low.Space || k.Space == low.Space && k.Name < low.Name {
				low = k
			}
		}
		rising = append(rising, low)
		left = slices.DeleteFunc(left, func(k api.Key) bool { return k == low })
	}
	return rising
}

// P5.1: rising, each once, also of what is no key.
func TestP5_1_Sort(t *testing.T) {
	list := []api.Key{key("b", "a"), key("a", "web"), key("a", "db"), key("b", "a"), {}, key("a", "web"), key("aa", "a"), key("a", "db")}
	want := []api.Key{{}, key("a", "db"), key("a", "web"), key("aa", "a"), key("b", "a")}
	if got := names.Sort(list); !slices.Equal(got, want) {
		t.Fatalf("%q; want %q", got, want)
	}
	if got := names.Sort(noKeys()); !slices.Equal(got, least(noKeys())) {
		t.Fatalf("%q", got)
	}
	for _, none := range [][]api.Key{nil, {}} {
		if got := names.Sort(none); len(got) != 0 {
			t.Fatalf("%q of nothing", got)
		}
	}
	chance := rand.New(rand.NewSource(53))
	for range 4000 {
		list := make([]api.Key, chance.Intn(30))
		for i := range list {
			list[i] = key(short(chance), short(chance))
			if chance.Intn(3) == 0 {
				list[i] = key(some(chance), some(chance))
			}
		}
		if got := names.Sort(list); !slices.Equal(got, least(list)) {
			t.Fatalf("%q: %q; want %q", list, got, least(list))
		}
	}
}

// P5.1: Sort leaves its list, and the room behind it, as it was, and its answer is apart from it.
func TestP5_1_SortApart(t *testing.T) {
	for _, list := range [][]api.Key{
		{key("b", "b"), key("a", "a"), key("b", "b")},
		{key("a", "a"), key("a", "a"), key("a", "b")},
		{key("a", "a"), key("a", "b"), key("b", "a")},
		{key("a", "a")},
		{},
	} {
		whole := append(slices.Clone(list), key("c", "c"), key("c", "c"), key("a", "0"))
		before := slices.Clone(whole)
		first := names.Sort(whole[:len(list)])
		second := names.Sort(whole[:len(list)])
		for _, answer := range [][]api.Key{first, append(first[:cap(first)], key("e", "e"))} {
			for i := range answer {
				answer[i] = key("x", "x")
			}
		}
		if !slices.Equal(whole, before) {
			t.Fatalf("%q is now %q", before, whole)
		}
		if !slices.Equal(second, least(list)) {
			t.Fatalf("the second answer is now %q", second)
		}
	}
}

// P5.1: layer 1's Text of a label, new each time; nothing of what is none.
func TestP5_1_Put(t *testing.T) {
	for s, want := range map[string]string{"a": "\x01a", "web": "\x03web", "a-b": "\x03a-b", "0": "\x010", strings.Repeat("z", 15): "\x0f" + strings.Repeat("z", 15)} {
		first, second := names.Put(s), names.Put(s)
		if string(first) != want {
			t.Fatalf("%q as it is put: %q; want %q", s, first, want)
		}
		clear(first[:cap(first)])
		if string(second) != want {
			t.Fatalf("%q as it was put is now %q", s, second)
		}
	}
	for _, s := range wrongs() {
		if got := names.Put(s); len(got) != 0 {
			t.Fatalf("%q is no label: %q", s, got)
		}
	}
}

// P5.1: the space, and the name, new each time; nothing of what is no key.
func TestP5_1_PutKey(t *testing.T) {
	long := strings.Repeat("z", 15)
	for want, k := range map[string]api.Key{
		"\x01a\x03web":                key("a", "web"),
		"\x03web\x01a":                key("web", "a"),
		"\x010\x010":                  key("0", "0"),
		"\x0f" + long + "\x0f" + long: key(long, long),
		"\x0f" + long + "\x01b":       key(long, "b"),
		"\x0bkube-system\x05dns-1":    key("kube-system", "dns-1"),
	} {
		first, second := names.PutKey(k), names.PutKey(k)
		if string(first) != want {
			t.Fatalf("%q as it is put: %q; want %q", k, first, want)
		}
		clear(first[:cap(first)])
		if string(second) != want {
			t.Fatalf("%q as it was put is now %q", k, second)
		}
	}
	for _, k := range noKeys() {
		if got := names.PutKey(k); len(got) != 0 {
			t.Fatalf("%q is no key: %q", k, got)
		}
	}
}

// reads holds what Read reads of bytes against a text, a place and an error.
func reads(t *testing.T, b []byte, want string, place int, err error) {
	t.Helper()
	c := octets.At(b)
	if got := names.Read(c); got != want || c.Place() != place || !errors.Is(c.Err(), err) {
		t.Fatalf("read %q of %q at %d, %v; want %q at %d, %v", got, b, c.Place(), c.Err(), want, place, err)
	}
}

// P5.1: a label is read as it was put, and the place is behind it.
func TestP5_1_Read(t *testing.T) {
	for _, s := range labels() {
		reads(t, names.Put(s), s, 1+len(s), nil)
		reads(t, append(names.Put(s), "-x\xff"...), s, 1+len(s), nil)
	}
	chance := rand.New(rand.NewSource(54))
	for range 20000 {
		first, second := some(chance), some(chance)
		c := octets.At(append(append([]byte{7}, names.Put(first)...), names.Put(second)...))
		c.Num(1)
		if got := names.Read(c); got != first || c.Err() != nil || c.Place() != 2+len(first) {
			t.Fatalf("read %q at %d, %v; want %q", got, c.Place(), c.Err(), first)
		}
		if got := names.Read(c); got != second || c.End() != nil {
			t.Fatalf("read %q, %v; want %q", got, c.End(), second)
		}
	}
}

// P5.1: a text that is no label is ErrName, behind it; the empty one is such a text.
func TestP5_1_ReadName(t *testing.T) {
	reads(t, []byte{0}, "", 1, api.ErrName)
	reads(t, []byte{0, 'a'}, "", 1, api.ErrName)
	for _, s := range wrongs() {
		if len(s) <= 15 {
			b, _ := octets.Text(s)
			reads(t, b, "", len(b), api.ErrName)
			reads(t, append(b, 1, 'a'), "", len(b), api.ErrName)
		}
	}
	for n := range 256 {
		b := []byte{3, 'a', byte(n), 'b'}
		if isLabel(string(b[1:])) {
			reads(t, b, string(b[1:]), 4, nil)
		} else {
			reads(t, b, "", 4, api.ErrName)
		}
	}
}

// P5.1: a byte that tells more than 15 is ErrLong, ahead of it, however many are left; fewer bytes than it tells are ErrShort.
func TestP5_1_ReadLength(t *testing.T) {
	for told := range 256 {
		for _, left := range []int{0, 1, 14, 15, 16, 17, 255, 300} {
			b := append([]byte{byte(told)}, strings.Repeat("a", left)...)
			switch {
			case told > 15:
				reads(t, b, "", 0, api.ErrLong)
			case told > left:
				reads(t, b, "", 0, api.ErrShort)
			case told == 0:
				reads(t, b, "", 1, api.ErrName)
			default:
				reads(t, b, strings.Repeat("a", told), 1+told, nil)
			}
		}
	}
	reads(t, nil, "", 0, api.ErrShort)
	reads(t, []byte{2, '-'}, "", 0, api.ErrShort)
}

// readsKey holds what ReadKey reads of bytes against a key, a place and an error.
func readsKey(t *testing.T, b string, want api.Key, place int, err error) {
	t.Helper()
	c := octets.At([]byte(b))
	if got := names.ReadKey(c); got != want || c.Place() != place || !errors.Is(c.Err(), err) {
		t.Fatalf("read %q of %q at %d, %v; want %q at %d, %v", got, b, c.Place(), c.Err(), want, place, err)
	}
}

// P5.1: a key is read as it was put, the space first, and the place is behind it.
func TestP5_1_ReadKey(t *testing.T) {
	readsKey(t, "\x01a\x03web", key("a", "web"), 6, nil)
	readsKey(t, "\x01a\x03web\x00", key("a", "web"), 6, nil)
	for _, space := range labels() {
		for _, name := range labels() {
			b := string(names.PutKey(key(space, name)))
			readsKey(t, b, key(space, name), len(b), nil)
			readsKey(t, b+"\x01a", key(space, name), len(b), nil)
		}
	}
	chance := rand.New(rand.NewSource(55))
	for range 20000 {
		first, second := key(some(chance), some(chance)), key(some(chance), some(chance))
		c := octets.At(append(names.PutKey(first), names.PutKey(second)...))
		if got := names.ReadKey(c); got != first || c.Err() != nil {
			t.Fatalf("read %q, %v; want %q", got, c.Err(), first)
		}
		if got := names.ReadKey(c); got != second || c.End() != nil {
			t.Fatalf("read %q, %v; want %q", got, c.End(), second)
		}
	}
}

// P5.1: what can't be read is the zero key, with the error of the part that can't be, behind those that could be.
func TestP5_1_ReadKeyWrong(t *testing.T) {
	for _, x := range []struct {
		b     string
		place int
		err   error
	}{
		{"", 0, api.ErrShort},
		{"\x01", 0, api.ErrShort},
		{"\x03ab", 0, api.ErrShort},
		{"\x01a", 2, api.ErrShort},
		{"\x01a\x03we", 2, api.ErrShort},
		{"\x01a\x01", 2, api.ErrShort},
		{"\x00\x01a", 1, api.ErrName},
		{"\x01a\x00", 3, api.ErrName},
		{"\x00\x00", 1, api.ErrName},
		{"\x01A\x01b", 2, api.ErrName},
		{"\x01a\x01B", 4, api.ErrName},
		{"\x02a-\x01b", 3, api.ErrName},
		{"\x01a\x02-b", 5, api.ErrName},
		{"\x01A", 2, api.ErrName},
		{"\x01A\x10", 2, api.ErrName},
		{"\x10" + strings.Repeat("a", 16) + "\x01b", 0, api.ErrLong},
		{"\x01a\x10" + strings.Repeat("b", 16), 2, api.ErrLong},
		{"\xff", 0, api.ErrLong},
		{"\x01a\xff", 2, api.ErrLong},
		{"\x03a/b\x01c", 4, api.ErrName},
	} {
		readsKey(t, x.b, api.Key{}, x.place, x.err)
	}
	whole := string(names.PutKey(key("space", "name")))
	for n := range whole {
		place := 0
		if n >= 6 {
			place = 6
		}
		readsKey(t, whole[:n], api.Key{}, place, api.ErrShort)
	}
}

// P5.1: a cursor that remembers an error stays, and keeps that; no cursor, nothing read.
func TestP5_1_ReadBehindAnError(t *testing.T) {
	for _, b := range []string{"\x01a\x03web", "\x00", "\x10", "\x01A\x01A", ""} {
		for _, err := range []error{api.ErrSum, api.ErrShort, api.ErrName} {
			c := octets.At([]byte(b))
			c.Fail(err)
			if got := names.Read(c); got != "" || !errors.Is(c.Err(), err) || c.Place() != 0 {
				t.Fatalf("read %q at %d, %v", got, c.Place(), c.Err())
			}
			if got := names.ReadKey(c); got != (api.Key{}) || !errors.Is(c.Err(), err) || c.Place() != 0 {
				t.Fatalf("read %q at %d, %v", got, c.Place(), c.Err())
			}
		}
	}
	c := octets.At([]byte("\x01A\x01a\x01b"))
	names.Read(c)
	if got := names.ReadKey(c); got != (api.Key{}) || !errors.Is(c.Err(), api.ErrName) || c.Place() != 2 {
		t.Fatalf("read %q at %d, %v", got, c.Place(), c.Err())
	}
	if names.Read(nil) != "" || names.ReadKey(nil) != (api.Key{}) {
		t.Fatal("something is read of no cursor")
	}
}
