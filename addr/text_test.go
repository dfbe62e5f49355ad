package addr_test

import (
	"errors"
	"math/rand"
	"net/netip"
	"strings"
	"testing"

	"linkboy/addr"
	"linkboy/api"
)

// groups is the address of eight groups.
func groups(g ...uint16) api.Addr {
	a := api.Addr{Six: true}
	for i, n := range g {
		a.B[2*i], a.B[2*i+1] = byte(n>>8), byte(n)
	}
	return a
}

// P2.1: texts of addresses, also those that Format wouldn't write.
func TestP2_1_Parse(t *testing.T) {
	for s, want := range map[string]api.Addr{
		"0.0.0.0":                         {},
		"1.2.3.4":                         addr.Four(1, 2, 3, 4),
		"10.0.0.1":                        addr.Four(10, 0, 0, 1),
		"99.100.199.200":                  addr.Four(99, 100, 199, 200),
		"255.255.255.255":                 addr.Four(255, 255, 255, 255),
		"249.250.9.0":                     addr.Four(249, 250, 9, 0),
		"2001:db8::1":                     groups(0x2001, 0xdb8, 0, 0, 0, 0, 0, 1),
		"2001:0DB8::0001":                 groups(0x2001, 0xdb8, 0, 0, 0, 0, 0, 1),
		"::":                              groups(),
		"::1":                             groups(0, 0, 0, 0, 0, 0, 0, 1),
		"1::":                             groups(1),
		"0::0":                            groups(),
		"0:0:0:0:0:0:0:0":                 groups(),
		"0000:000:00:0:0:00:000:0000":     groups(),
		"1:2:3:4:5:6:7:8":                 groups(1, 2, 3, 4, 5, 6, 7, 8),
		"::2:3:4:5:6:7:8":                 groups(0, 2, 3, 4, 5, 6, 7, 8),
		"1:2:3:4:5:6:7::":                 groups(1, 2, 3, 4, 5, 6, 7, 0),
		"1:2:3::5:6:7:8":                  groups(1, 2, 3, 0, 5, 6, 7, 8),
		"1:2:3::7:8":                      groups(1, 2, 3, 0, 0, 0, 7, 8),
		"0:0::0:0":                        groups(),
		"1:0:0::0:8":                      groups(1, 0, 0, 0, 0, 0, 0, 8),
		"abcd:EF01:2345:6789:aBcD:eF:F:f": groups(0xabcd, 0xef01, 0x2345, 0x6789, 0xabcd, 0xef, 0xf, 0xf),
		"ffff:ffff:ffff:ffff:ffff:ffff:ffff:ffff": groups(0xffff, 0xffff, 0xffff, 0xffff, 0xffff, 0xffff, 0xffff, 0xffff),
		"::ffff:102:304": groups(0, 0, 0, 0, 0, 0xffff, 0x102, 0x304),
	} {
		if got, err := addr.Parse(s); got != want || err != nil {
			t.Fatalf("%q: %v, %v; want %v", s, got, err, want)
		}
	}
}

// P2.1: whatever is none of the texts is ErrForm, beside the zero address.
func TestP2_1_ParseForm(t *testing.T) {
	for _, s := range []string{
		"", " ", ".", "...", "1", "1.2.3", "1.2.3.4.5", "1.2.3.", ".1.2.3", "1..2.3", "1.2.3.4.", ".1.2.3.4",
		"01.2.3.4", "1.02.3.4", "1.2.003.4", "1.2.3.00", "1.2.3.04", "00.0.0.0", "0000.0.0.0",
		"256.1.1.1", "1.256.1.1", "1.1.256.1", "1.1.1.256", "1.1.1.300", "1.1.1.1000", "1.1.1.257", "1.1.1.65536",
		"1.1.1.4294967297", "1.1.1.18446744073709551617", "1.1.1." + strings.Repeat("9", 99),
		"+1.2.3.4", "-1.2.3.4", "-0.2.3.4", "1.2.3.4 ", " 1.2.3.4", "1.2.3. 4", "1.2.3.a", "a.b.c.d", "0x1.2.3.4", "1_0.2.3.4",
		"1.2.3.4\x00", "1.2.3.4\n", "1,2,3,4", "\uff11.2.3.4", "1.2.3.\u0661", "1.2.3.4/8", "16909060",
		":", ":::", "::::", "1:", ":1", "1:::", ":::1", "1:::2", "1::2::3", "::1::", "1::2::", "::::1",
		"1:2:3:4:5:6:7", "1:2:3:4:5:6:7:", ":1:2:3:4:5:6:7", ":2:3:4:5:6:7:8", "1:2:3:4:5:6:7:8:9", "1:2:3:4:5:6:7:8:", ":1:2:3:4:5:6:7:8",
		"1:2:3:4:5:6:7:8::", "::1:2:3:4:5:6:7:8", "1:2:3:4::5:6:7:8", "1:2:3:4:5::6:7:8:9", "1::2:3:4:5:6:7:8",
		"1:2::3:", ":1::2", "1::2:", "::1:", ":1::",
		"12345::", "::00000", "::00001", "1:2:3:4:5:6:7:00008", "::fffff", "::10000", "::g", "::G", "::`", "::@", "::/", "::-1", "::+1", "::0x1", "::1_1", ":: 1", "::1 ", " ::1",
		"::1.2.3.4", "::ffff:1.2.3.4", "1:2:3:4:5:6:1.2.3.4", "1.2.3.4:80", "1.2.3.4::", "[::1]", "::1%eth0", "fe80::1%1", "::1/64", "::1\x00", "::\uff11", "1;2;3;4;5;6;7;8",
	} {
		if got, err := addr.Parse(s); got != (api.Addr{}) || !errors.Is(err, api.ErrForm) {
			t.Fatalf("%q: %v, %v; want ErrForm", s, got, err)
		}
	}
}

// P2.1: every number of one to four figures, in every one of the four places.
func TestP2_1_ParseNumbers(t *testing.T) {
	for place := range 4 {
		for n := range 1100 {
			parts := []string{"7", "7", "7", "7"}
			plain := decimal(n)
			for _, number := range []string{plain, "0" + plain} {
				parts[place] = number
				want := addr.Four(7, 7, 7, 7)
				want.B[place] = byte(n)
				got, err := addr.Parse(strings.Join(parts, "."))
				if number == plain && n < 256 {
					if got != want || err != nil {
						t.Fatalf("%v: %v, %v", parts, got, err)
					}
				} else if got != (api.Addr{}) || !errors.Is(err, api.ErrForm) {
					t.Fatalf("%v: %v, %v; want ErrForm", parts, got, err)
				}
			}
		}
	}
}

func decimal(n int) string {
	if n < 10 {
		return string(rune('0' + n))
	}
	return decimal(n/10) + string(rune('0'+n%10))
}

// P2.1: every byte in place of a figure.
func TestP2_1_ParseFigures(t *testing.T) {
	for b := range 256 {
		c := string([]byte{byte(b)})
		at := strings.Index("0123456789abcdef", c)
		if up := strings.Index("0123456789ABCDEF", c); at < 0 {
			at = up
		}
		got, err := addr.Parse("1:2:3:4:5:6:7:3" + c)
		if at >= 0 {
			if want := groups(1, 2, 3, 4, 5, 6, 7, 0x30+uint16(at)); got != want || err != nil {
				t.Fatalf("figure %q: %v, %v", c, got, err)
			}
		} else if !errors.Is(err, api.ErrForm) {
			t.Fatalf("figure %q: %v, %v; want ErrForm", c, got, err)
		}
		got, err = addr.Parse("1.2.3.1" + c)
		if at >= 0 && at < 10 {
			if want := addr.Four(1, 2, 3, 10+byte(at)); got != want || err != nil {
				t.Fatalf("figure %q: %v, %v", c, got, err)
			}
		} else if !errors.Is(err, api.ErrForm) {
			t.Fatalf("figure %q: %v, %v; want ErrForm", c, got, err)
		}
	}
}

// P2.1: Format writes the least figures, small ones, and a gap for the first of the longest rows of two or more.
func TestP2_1_Format(t *testing.T) {
	for want, a := range map[string]api.Addr{
		"0.0.0.0":                 {},
		"1.2.3.4":                 addr.Four(1, 2, 3, 4),
		"255.100.10.0":            addr.Four(255, 100, 10, 0),
		"::":                      groups(),
		"::1":                     groups(0, 0, 0, 0, 0, 0, 0, 1),
		"1::":                     groups(1),
		"2001:db8::1":             groups(0x2001, 0xdb8, 0, 0, 0, 0, 0, 1),
		"1:2:3:4:5:6:7:8":         groups(1, 2, 3, 4, 5, 6, 7, 8),
		"0:2:3:4:5:6:7:8":         groups(0, 2, 3, 4, 5, 6, 7, 8),
		"1:2:3:0:5:6:7:8":         groups(1, 2, 3, 0, 5, 6, 7, 8),
		"1:2:3:4:5:6:7:0":         groups(1, 2, 3, 4, 5, 6, 7, 0),
		"0:2:0:4:0:6:0:8":         groups(0, 2, 0, 4, 0, 6, 0, 8),
		"::3:4:5:6:7:8":           groups(0, 0, 3, 4, 5, 6, 7, 8),
		"1:2:3:4:5:6::":           groups(1, 2, 3, 4, 5, 6, 0, 0),
		"1::4:0:0:7:8":            groups(1, 0, 0, 4, 0, 0, 7, 8),
		"1:0:0:4::8":              groups(1, 0, 0, 4, 0, 0, 0, 8),
		"::4:5:0:0:0":             groups(0, 0, 0, 4, 5, 0, 0, 0),
		"0:0:3::":                 groups(0, 0, 3, 0, 0, 0, 0, 0),
		"abcd:ef:f:a0:b00::c000":  groups(0xabcd, 0xef, 0xf, 0xa0, 0xb00, 0, 0, 0xc000),
		"::ffff:102:304":          groups(0, 0, 0, 0, 0, 0xffff, 0x102, 0x304),
		"::102:304":               groups(0, 0, 0, 0, 0, 0, 0x102, 0x304),
		"ff00:f:100:1:10:1:1:100": groups(0xff00, 0xf, 0x100, 1, 0x10, 1, 1, 0x100),
	} {
		if got := addr.Format(a); got != want {
			t.Fatalf("%v: %q; want %q", a, got, want)
		}
	}
	for place := 4; place < 16; place++ {
		if got := addr.Format(bad(place)); got != "" {
			t.Fatalf("an address that isn't right: %q", got)
		}
	}
}

// plainly is the text of sixteen bytes, worked out by trying every row from the longest on.
func plainly(a api.Addr) string {
	parts := make([]string, 8)
	for i := range parts {
		figures := ""
		for _, b := range a.B[2*i : 2*i+2] {
			figures += string("0123456789abcdef"[b>>4]) + string("0123456789abcdef"[b&15])
		}
		parts[i] = strings.TrimLeft(figures, "0")
		if parts[i] == "" {
			parts[i] = "0"
		}
	}
	for length := 8; length >= 2; length-- {
		for from := 0; from+length <= 8; from++ {
			if strings.Join(parts[from:from+length], "") == strings.Repeat("0", length) {
				return strings.Join(parts[:from], ":") + "::" + strings.Join(parts[from+length:], ":")
			}
		}
	}
	return strings.Join(parts, ":")
}

// P2.1, P2.2: every pattern of noughts, with groups that have a nought byte of their own.
func TestP2_2_AllPatterns(t *testing.T) {
	for _, full := range []uint16{1, 0x100, 0xf, 0xf0, 0xffff} {
		for pattern := range 256 {
			g := make([]uint16, 8)
			for i := range g {
				if pattern>>i&1 == 1 {
					g[i] = full
				}
			}
			a := groups(g...)
			text := addr.Format(a)
			if want := plainly(a); text != want {
				t.Fatalf("%v: %q; want %q", g, text, want)
			}
			if got, err := addr.Parse(text); got != a || err != nil {
				t.Fatalf("%q: %v, %v; want %v", text, got, err, a)
			}
			// A gap in place of any row, not just of the one that is formatted, is the same address.
			for from := range 8 {
				for to := from + 1; to <= 8 && g[to-1] == 0; to++ {
					text := words(g[:from]) + "::" + words(g[to:])
					if got, err := addr.Parse(text); got != a || err != nil {
						t.Fatalf("%q: %v, %v; want %v", text, got, err, a)
					}
				}
			}
		}
	}
}

// words is groups with all four figures, great ones.
func words(g []uint16) string {
	parts := make([]string, len(g))
	for i, n := range g {
		for shift := 12; shift >= 0; shift -= 4 {
			parts[i] += string("0123456789ABCDEF"[n>>shift&15])
		}
	}
	return strings.Join(parts, ":")
}

// P2.2: every byte of four, and all kinds of addresses, come back.
func TestP2_2_Back(t *testing.T) {
	for place := range 16 {
		for n := range 256 {
			six := api.Addr{Six: true}
			six.B[place] = byte(n)
			back(t, six)
			if place < 4 {
				four := addr.Four(1, 2, 3, 4)
				four.B[place] = byte(n)
				back(t, four)
			}
		}
	}
	chance := rand.New(rand.NewSource(1))
	for range 50000 {
		back(t, some(chance))
	}
}

func back(t *testing.T, a api.Addr) {
	t.Helper()
	text := addr.Format(a)
	if got, err := addr.Parse(text); got != a || err != nil {
		t.Fatalf("%v: %q: %v, %v", a, text, got, err)
	}
	if a.Six && text != plainly(a) {
		t.Fatalf("%v: %q; want %q", a, text, plainly(a))
	}
}

// P2.1: texts made by chance are parsed as another parser does, but that mixed texts and zones are none here.
func TestP2_1_ParseAgainstAnother(t *testing.T) {
	pieces := []string{":", ":", "::", ".", ".", "0", "1", "f", "A", "00", "25", "255", "256", "db8", "10000", "1:2:3", "0.0", "1.2.3", "g"}
	chance := rand.New(rand.NewSource(3))
	for range 300000 {
		s := ""
		for range 1 + chance.Intn(14) {
			s += pieces[chance.Intn(len(pieces))]
		}
		other, err := netip.ParseAddr(s)
		right := err == nil && (other.Is4() || !strings.Contains(s, "."))
		got, err := addr.Parse(s)
		if !right {
			if got != (api.Addr{}) || !errors.Is(err, api.ErrForm) {
				t.Fatalf("%q: %v, %v; want ErrForm", s, got, err)
			}
			continue
		}
		want, _ := addr.From(other.AsSlice())
		if got != want || err != nil {
			t.Fatalf("%q: %v, %v; want %v", s, got, err, want)
		}
	}
}
