package ports_test

import (
	"errors"
	"math/rand"
	"net/netip"
	"strconv"
	"strings"
	"testing"

	"linkboy/addr"
	"linkboy/api"
	"linkboy/ports"
)

// parses holds a text's point against what it must be; no point is ErrForm.
func parses(t *testing.T, s string, want api.Point, is bool) {
	t.Helper()
	got, err := ports.Parse(s)
	if is && (got != want || err != nil) {
		t.Fatalf("%q: %v, %v; want %v", s, got, err, want)
	}
	if !is && (got != (api.Point{}) || !errors.Is(err, api.ErrForm)) {
		t.Fatalf("%q: %v, %v; want ErrForm", s, got, err)
	}
}

// P4.1: texts of points, also those whose address Format would write otherwise.
func TestP4_1_Parse(t *testing.T) {
	for s, want := range map[string]api.Point{
		"[::1]:80":                    of("::1", 80),
		"1.2.3.4:80":                  of("1.2.3.4", 80),
		"0.0.0.0:1":                   of("0.0.0.0", 1),
		"255.255.255.255:65535":       of("255.255.255.255", 65535),
		"10.0.0.1:9":                  of("10.0.0.1", 9),
		"10.0.0.1:10":                 of("10.0.0.1", 10),
		"10.0.0.1:60000":              of("10.0.0.1", 60000),
		"[::]:1":                      of("::", 1),
		"[::]:65535":                  of("::", 65535),
		"[1::]:443":                   of("1::", 443),
		"[2001:db8::1]:8080":          of("2001:db8::1", 8080),
		"[2001:0DB8:0:0:0:0:0:1]:100": of("2001:db8::1", 100),
		"[0::0]:80":                   of("::", 80),
		"[1:2:3:4:5:6:7:8]:9":         of("1:2:3:4:5:6:7:8", 9),
		"[ABCD::EF]:80":               of("abcd::ef", 80),
	} {
		parses(t, s, want, true)
	}
}

// P4.1: whatever is no point's text is ErrForm, beside the zero point.
func TestP4_1_ParseForm(t *testing.T) {
	for _, s := range []string{
		"", " ", ":", "::", ":::", "[]", "[]:", "[]:80", "[:80", "]:80", "][:80", ":80", "80", "[", "]", "[:", "]:", "[:]:80", "[[]]:80",
		"1.2.3.4", "::1", "[::1]", "1.2.3.4:", "[::1]:", "[::1]80", "[::1] 80", "1.2.3.480", "1.2.3.4 80", "1.2.3.4;80", "1.2.3.4.80", "1.2.3.4/80",
		// Brackets stand around sixteen bytes, and around nothing else.
		"::1:80", "1:2:3:4:5:6:7:8:80", "1:2:3:4:5:6:7:8", "2001:db8::1:80", ":::80", "[1.2.3.4]:80", "[0.0.0.0]:1", "[1.2.3.4:80]", "[::1:80]", "[::1:80", "::1]:80", "[::1:80]:", "[::1]]:80", "[[::1]:80", "[[::1]]:80",
		"[::1].:80", ".[::1]:80", "[::1][::1]:80", "([::1]):80", "(::1):80", "{::1}:80", "<::1>:80", "[::1]x:80", "x[::1]:80", "[ ::1]:80", "[::1 ]:80", " [::1]:80", "[::1] :80", "[1.2.3.4:80", "1.2.3.4]:80",
		// What stands ahead is an address's text.
		"1.2.3:80", "1.2.3.4.5:80", "1.2.3.256:80", "01.2.3.4:80", "1.2.3.4 :80", " 1.2.3.4:80", "x:80", "localhost:80", "*:80", "[:::1]:80", "[1:2]:80", "[::g]:80", "[::10000]:80", "[1::2::3]:80", "[::1.2.3.4]:80", "[fe80::1%1]:80", "[1:2:3:4:5:6:7:8:9]:80", "10.0.0.0/8:80", "[::/0]:80",
		// What stands behind is a port's figures.
		"1.2.3.4:0", "[::1]:0", "1.2.3.4:00", "1.2.3.4:080", "1.2.3.4:0080", "1.2.3.4:01", "[::1]:080", "[::1]:065535", "1.2.3.4:65536", "[::1]:65536", "1.2.3.4:65537", "1.2.3.4:65616", "1.2.3.4:70000", "1.2.3.4:99999", "1.2.3.4:100000", "1.2.3.4:655350",
		"1.2.3.4:4294967376", "1.2.3.4:18446744073709551696", "[::1]:" + strings.Repeat("9", 99), "1.2.3.4:" + strings.Repeat("0", 99) + "80",
		"1.2.3.4:+80", "1.2.3.4:-80", "1.2.3.4:-1", "1.2.3.4:+0", "1.2.3.4: 80", "1.2.3.4:80 ", "1.2.3.4:80\n", "1.2.3.4:80\x00", "1.2.3.4:a", "1.2.3.4:0x50", "1.2.3.4:8a", "1.2.3.4:8_0", "1.2.3.4:8.0", "1.2.3.4:1e2", "1.2.3.4:http", "1.2.3.4:\uff18", "1.2.3.4:\u0668",
		"1.2.3.4::80", "1.2.3.4:80:", "1.2.3.4:80:80", "[::1]::80", "[::1]:80:", "[::1]:80:80", "[::1]:[80]", "1.2.3.4:[80]", ":1.2.3.4:80", ":[::1]:80", "[::1]:80]", "[1.2.3.4:80]",
	} {
		parses(t, s, api.Point{}, false)
	}
}

// P4.1: every number of figures as a port, with and without a nought ahead.
func TestP4_1_ParsePorts(t *testing.T) {
	for text, p := range map[string]api.Point{"10.0.0.1": of("10.0.0.1", 0), "[::1]": of("::1", 0)} {
		for n := range 132000 {
			p.Port = n
			figures := strconv.Itoa(n)
			parses(t, text+":"+figures, p, n >= 1 && n <= 65535)
			parses(t, text+":0"+figures, p, false)
		}
	}
}

// P4.1: every byte in every place of a text.
func TestP4_1_ParseBytes(t *testing.T) {
	for b := range 256 {
		c := string([]byte{byte(b)})
		figure, n := strings.Contains("0123456789", c), b-'0'
		parses(t, c+"::1]:80", of("::1", 80), c == "[")
		parses(t, "[::1"+c+":80", of("::1", 80), c == "]")
		parses(t, "[::1]"+c+"80", of("::1", 80), c == ":")
		parses(t, "[::1]:"+c, of("::1", n), figure && n > 0)
		parses(t, "[::1]:"+c+"0", of("::1", n*10), figure && n > 0)
		parses(t, "[::1]:8"+c, of("::1", 80+n), figure)
		parses(t, "[::1]"+c+":80", api.Point{}, false)
		parses(t, c+"[::1]:80", api.Point{}, false)
		parses(t, "1.2.3.4"+c+"80", of("1.2.3.4", 80), c == ":")
		parses(t, "1.2.3.4:"+c, of("1.2.3.4", n), figure && n > 0)
		parses(t, "1.2.3.4:8"+c, of("1.2.3.4", 80+n), figure)
	}
}

// P4.1: the address's text, in brackets if it has sixteen bytes, a colon, and the port; nothing of what is none.
func TestP4_1_Format(t *testing.T) {
	for want, p := range map[string]api.Point{
		"[::1]:80":              of("::1", 80),
		"1.2.3.4:80":            of("1.2.3.4", 80),
		"0.0.0.0:1":             of("0.0.0.0", 1),
		"255.255.255.255:65535": of("255.255.255.255", 65535),
		"10.0.0.1:10000":        of("10.0.0.1", 10000),
		"[::]:65535":            of("::", 65535),
		"[1::]:1":               of("1:0:0:0:0:0:0:0", 1),
		"[2001:db8::1]:8080":    of("2001:0DB8::0001", 8080),
		"[::ffff:102:304]:443":  of("::ffff:102:304", 443),
	} {
		if got := ports.Format(p); got != want {
			t.Fatalf("%v: %q; want %q", p, got, want)
		}
	}
	for _, p := range wrongs() {
		if got := ports.Format(p); got != "" {
			t.Fatalf("%v is no point: %q", p, got)
		}
	}
}

// back holds a point's text against its parts, and what is parsed of it against the point.
func back(t *testing.T, p api.Point) {
	t.Helper()
	want := addr.Format(p.Addr) + ":" + strconv.Itoa(p.Port)
	if p.Addr.Six {
		want = "[" + addr.Format(p.Addr) + "]:" + strconv.Itoa(p.Port)
	}
	text := ports.Format(p)
	if text != want {
		t.Fatalf("%v: %q; want %q", p, text, want)
	}
	parses(t, text, p, true)
}

// P4.2: every port, every byte of an address, and points made by chance come back.
func TestP4_2_Back(t *testing.T) {
	for port := 1; port <= 65535; port++ {
		back(t, of("10.0.0.1", port))
		back(t, of("2001:db8::1", port))
	}
	for place := range 16 {
		for n := range 256 {
			six := of("::", 80)
			six.Addr.B[place] = byte(n)
			back(t, six)
			if place < 4 {
				four := of("1.2.3.4", 80)
				four.Addr.B[place] = byte(n)
				back(t, four)
			}
		}
	}
	chance := rand.New(rand.NewSource(43))
	for range 50000 {
		back(t, some(chance))
	}
}

// P4.2: what is parsed of any text is formatted as a text of the same point, and no two points have one text.
func TestP4_2_OneTextEach(t *testing.T) {
	texts := map[string]api.Point{}
	chance := rand.New(rand.NewSource(44))
	for range 50000 {
		p := some(chance)
		text := ports.Format(p)
		if other, known := texts[text]; known && other != p {
			t.Fatalf("%v and %v: %q", p, other, text)
		}
		texts[text] = p
	}
	for s, want := range map[string]string{"[0:0::1]:80": "[::1]:80", "[ABCD::]:9": "[abcd::]:9", "1.2.3.4:5": "1.2.3.4:5"} {
		p, err := ports.Parse(s)
		if got := ports.Format(p); got != want || err != nil {
			t.Fatalf("%q: %q, %v; want %q", s, got, err, want)
		}
	}
}

// P4.1: texts made by chance are parsed as another parser does, but that noughts ahead of a port, no port, and mixed addresses are none here.
func TestP4_1_ParseAgainstAnother(t *testing.T) {
	pieces := []string{":", ":", ":", "::", "[", "]", "]:", "]:", "[::", "1.2.3.4", "10.0.0.1:", "0", "1", "80", "65535", "65536", "ff", "[1:2:3:4:5:6:7:8", " ", "-", "+"}
	heads := []string{"1.2.3.4", "1.2.3.4:", "[::1]", "[::1]:", "[::", "[ff:0:0::", "::1", "[1.2.3.4]:"}
	chance := rand.New(rand.NewSource(45))
	count := 0
	for range 400000 {
		s := ""
		if chance.Intn(3) == 0 {
			s = heads[chance.Intn(len(heads))]
		}
		for range 1 + chance.Intn(4) {
			s += pieces[chance.Intn(len(pieces))]
		}
		other, err := netip.ParseAddrPort(s)
		behind := s[strings.LastIndex(s, ":")+1:]
		is := err == nil && !strings.HasPrefix(behind, "0") && (other.Addr().Is4() || !strings.Contains(s, "."))
		want := api.Point{}
		if is {
			want.Addr, _ = addr.From(other.Addr().AsSlice())
			want.Port = int(other.Port())
			count++
		}
		parses(t, s, want, is)
	}
	if count < 1000 {
		t.Fatalf("just %d were points", count)
	}
}
