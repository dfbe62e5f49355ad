package names_test

import (
	"errors"
	"math/rand"
	"strings"
	"testing"

	"linkboy/api"
	"linkboy/names"
)

// parses holds a text's key against what it must be; no key is ErrName.
func parses(t *testing.T, s string, want api.Key, is bool) {
	t.Helper()
	got, err := names.Parse(s)
	if is && (got != want || err != nil) {
		t.Fatalf("%q: %q, %v; want %q", s, got, err, want)
	}
	if !is && (got != (api.Key{}) || !errors.Is(err, api.ErrName)) {
		t.Fatalf("%q: %q, %v; want ErrName", s, got, err)
	}
}

// P5.1: the space, a slash, the name; nothing of what is no key.
func TestP5_1_Format(t *testing.T) {
	long := strings.Repeat("z", 15)
	for want, k := range map[string]api.Key{
		"a/web":             key("a", "web"),
		"web/a":             key("web", "a"),
		"0/9":               key("0", "9"),
		"kube-system/dns-1": key("kube-system", "dns-1"),
		long + "/" + long:   key(long, long),
	} {
		if got := names.Format(k); got != want {
			t.Fatalf("%q: %q; want %q", k, got, want)
		}
	}
	for _, k := range noKeys() {
		if got := names.Format(k); got != "" {
			t.Fatalf("%q is no key: %q", k, got)
		}
	}
}

// P5.1: keys' texts, each of them what Format answers.
func TestP5_1_Parse(t *testing.T) {
	parses(t, "a/web", key("a", "web"), true)
	for _, space := range labels() {
		for _, name := range labels() {
			k := key(space, name)
			parses(t, space+"/"+name, k, true)
			parses(t, names.Format(k), k, true)
		}
	}
}

// P5.1: whatever is no key's text is ErrName, beside the zero key.
func TestP5_1_ParseName(t *testing.T) {
	for _, s := range []string{
		"", "/", "//", "a", "web", "a-web", "a/", "/a", "a//b", "/a/b", "a/b/", "a/b/c", "a/b/c/d", "//a", "a//", " a/b", "a /b", "a/ b", "a/b ", "a/b\n", "a/b\x00", "a\\b", "a|b", "a.b", "a:b", "a\u2044b", "a\u2215b", "a\uff0fb", "a%2fb",
		"A/b", "a/B", "-a/b", "a-/b", "a/-b", "a/b-", "-/-", "a/-", "-/a", "a_b/c", "a/b_c", "a.b/c", "a/b.c", "*/a", "a/*", "./a", "a/..",
		strings.Repeat("a", 16) + "/b", "b/" + strings.Repeat("a", 16), strings.Repeat("a", 15), strings.Repeat("a", 31), strings.Repeat("a/", 15), strings.Repeat("/", 3), strings.Repeat("a", 300) + "/" + strings.Repeat("b", 300),
	} {
		parses(t, s, api.Key{}, false)
	}
	for _, bad := range wrongs() {
		parses(t, bad+"/web", api.Key{}, false)
		parses(t, "a/"+bad, api.Key{}, false)
		parses(t, bad+"/"+bad, api.Key{}, false)
	}
}

// P5.1: every byte in each place of a text.
func TestP5_1_ParseBytes(t *testing.T) {
	for n := range 256 {
		c := string([]byte{byte(n)})
		whole := strings.Contains(figures, c)
		parses(t, c+"/b", key(c, "b"), whole)
		parses(t, "a/"+c, key("a", c), whole)
		parses(t, "a"+c+"b", key("a", "b"), c == "/")
		parses(t, "a"+c+"/b", key("a"+c, "b"), whole)
		parses(t, "a/"+c+"b", key("a", c+"b"), whole)
		parses(t, "a"+c+"x/b", key("a"+c+"x", "b"), whole || c == "-")
		parses(t, "a/x"+c+"b", key("a", "x"+c+"b"), whole || c == "-")
	}
}

// P5.1: texts made by chance are keys' just if one slash parts two labels.
func TestP5_1_ParseByChance(t *testing.T) {
	chance := rand.New(rand.NewSource(56))
	count := 0
	for range 200000 {
		b := make([]byte, chance.Intn(36))
		for i := range b {
			b[i] = "abcxyz0189-"[chance.Intn(11)]
		}
		for range chance.Intn(3) {
			if len(b) > 0 {
				b[chance.Intn(len(b))] = '/'
			}
		}
		parts := strings.Split(string(b), "/")
		if len(parts) == 2 && isLabel(parts[0]) && isLabel(parts[1]) {
			parses(t, string(b), key(parts[0], parts[1]), true)
			if got := names.Format(key(parts[0], parts[1])); got != string(b) {
				t.Fatalf("%q: %q", b, got)
			}
			count++
		} else {
			parses(t, string(b), api.Key{}, false)
		}
	}
	if count < 1000 {
		t.Fatalf("just %d were keys", count)
	}
}
