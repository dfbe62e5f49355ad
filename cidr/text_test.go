package cidr_test

import (
	"errors"
	"math/rand"
	"net/netip"
	"strconv"
	"strings"
	"testing"

	"linkboy/addr"
	"linkboy/api"
	"linkboy/cidr"
)

// P3.1: texts of cidrs, also those whose address Format would write otherwise.
func TestP3_1_Parse(t *testing.T) {
	for s, want := range map[string]api.Cidr{
		"10.0.0.0/8":               of("10.0.0.0", 8),
		"0.0.0.0/0":                {},
		"0.0.0.0/32":               of("0.0.0.0", 32),
		"10.1.2.3/32":              of("10.1.2.3", 32),
		"128.0.0.0/1":              of("128.0.0.0", 1),
		"10.0.0.0/7":               of("10.0.0.0", 7),
		"::/0":                     of("::", 0),
		"::/128":                   of("::", 128),
		"::1/128":                  of("::1", 128),
		"::/33":                    of("::", 33),
		"2001:db8::/29":            of("2001:db8::", 29),
		"2001:0DB8:0:0:0:0:0:0/32": of("2001:db8::", 32),
		"8000::/1":                 of("8000::", 1),
		"ffff::/100":               of("ffff::", 100),
	} {
		if got, err := cidr.Parse(s); got != want || err != nil {
			t.Fatalf("%q: %v, %v; want %v", s, got, err, want)
		}
	}
}

// P3.1: what has no slash, no address ahead of the first one, or no such figures behind it.
func TestP3_1_ParseForm(t *testing.T) {
	for _, s := range []string{
		"", "/", "//", "10.0.0.0", "::", "8", "10.0.0.0/", "::/", "/8", "/0", "10.0.0.0//8", "10.0.0.0/8/", "10.0.0.0/8/8", "/10.0.0.0/8", "10.0.0.0 8", "10.0.0.0\\8",
		"10.0.0/8", "10/8", "10.0.0.256/8", "010.0.0.0/8", "10.0.0.0.0/8", "10.0.0.0 /8", " 10.0.0.0/8", "x/8", "1:2/8", ":::/8", "::g/8", "::1.2.3.4/128", "fe80::1%1/128",
		"10.0.0.0/08", "10.0.0.0/00", "10.0.0.0/032", "::/0128", "::/01", "10.0.0.0/+8", "10.0.0.0/-8", "10.0.0.0/-0", "10.0.0.0/+0", "10.0.0.0/ 8", "10.0.0.0/8 ", "10.0.0.0/8\n", "10.0.0.0/8\x00",
		"10.0.0.0/a", "10.0.0.0/0x8", "10.0.0.0/8a", "10.0.0.0/1_6", "10.0.0.0/8.0", "10.0.0.0/255.0.0.0", "10.0.0.0/1e1", "10.0.0.0/\uff18", "10.0.0.0/\u0668",
		"10.0.0.0/129", "::/129", "::/130", "::/200", "::/255", "::/256", "10.0.0.0/264", "::/999", "::/1000", "::/1280", "10.0.0.0/4294967304", "10.0.0.0/18446744073709551624", "::/" + strings.Repeat("9", 99),
		// Of several, the form is told first.
		"10.0.0.1/129", "10.0.0.1/08", "10.0.0.1/", "10.0.0.1", "10.0.0.1/33x", "1.2.3/33", "::1/129",
	} {
		if got, err := cidr.Parse(s); got != (api.Cidr{}) || !errors.Is(err, api.ErrForm) {
			t.Fatalf("%q: %v, %v; want ErrForm", s, got, err)
		}
	}
}

// P3.1: every byte in place of the slash, of the bits, and behind them.
func TestP3_1_ParseBytes(t *testing.T) {
	for b := range 256 {
		c := string([]byte{byte(b)})
		figure := strings.Contains("0123456789", c)
		for _, x := range []struct {
			text string
			ok   bool
			want api.Cidr
		}{
			{"10.0.0.0" + c + "8", c == "/", of("10.0.0.0", 8)},
			{"0.0.0.0/" + c, figure, of("0.0.0.0", b-'0')},
			{"0.0.0.0/1" + c, figure, of("0.0.0.0", 10+b-'0')},
			{"::/10" + c, figure, of("::", 100+b-'0')},
		} {
			got, err := cidr.Parse(x.text)
			if x.ok && (got != x.want || err != nil) {
				t.Fatalf("%q: %v, %v; want %v", x.text, got, err, x.want)
			}
			if !x.ok && (got != (api.Cidr{}) || !errors.Is(err, api.ErrForm)) {
				t.Fatalf("%q: %v, %v; want ErrForm", x.text, got, err)
			}
		}
	}
}

// P3.1: every number of bits, with and without a nought ahead: none, one that the address hasn't, or one that it has.
func TestP3_1_ParseBits(t *testing.T) {
	for _, text := range []string{"0.0.0.0", "255.255.255.255", "::", "ffff:ffff:ffff:ffff:ffff:ffff:ffff:ffff"} {
		a := at(text)
		for n := range 1300 {
			var want error
			if n > 128 {
				want = api.ErrForm
			} else if n > addr.Bits(a) {
				want = api.ErrRange
			} else if strings.Contains(binary(a)[n:], "1") {
				want = api.ErrAddress
			}
			number := strconv.Itoa(n)
			got, err := cidr.Parse(text + "/" + number)
			if !errors.Is(err, want) || want == nil && got != of(text, n) || want != nil && got != (api.Cidr{}) {
				t.Fatalf("%s/%s: %v, %v; want %v", text, number, got, err, want)
			}
			if got, err := cidr.Parse(text + "/0" + number); got != (api.Cidr{}) || !errors.Is(err, api.ErrForm) {
				t.Fatalf("%s/0%s: %v, %v; want ErrForm", text, number, got, err)
			}
		}
	}
}

// P3.1: too many bits are told ahead of bits behind them.
func TestP3_1_ParseRangeAndAddress(t *testing.T) {
	for s, want := range map[string]error{
		"10.0.0.0/33":     api.ErrRange,
		"10.0.0.1/33":     api.ErrRange,
		"10.0.0.1/128":    api.ErrRange,
		"0.0.0.0/64":      api.ErrRange,
		"10.0.0.1/8":      api.ErrAddress,
		"10.0.0.1/31":     api.ErrAddress,
		"10.0.0.0/6":      api.ErrAddress,
		"0.0.0.1/0":       api.ErrAddress,
		"128.0.0.0/0":     api.ErrAddress,
		"::1/127":         api.ErrAddress,
		"::1/33":          api.ErrAddress,
		"::1/0":           api.ErrAddress,
		"2001:db8::/28":   api.ErrAddress,
		"2001:db8::/0":    api.ErrAddress,
		"2001:db8::1/120": api.ErrAddress,
	} {
		if got, err := cidr.Parse(s); got != (api.Cidr{}) || !errors.Is(err, want) {
			t.Fatalf("%q: %v, %v; want %v", s, got, err, want)
		}
	}
}

// P3.1: the address's text, a slash, and the bits; nothing of what isn't right.
func TestP3_1_Format(t *testing.T) {
	for want, c := range map[string]api.Cidr{
		"10.0.0.0/8":     of("10.0.0.0", 8),
		"0.0.0.0/0":      {},
		"0.0.0.0/32":     of("0.0.0.0", 32),
		"10.1.2.3/32":    of("10.1.2.3", 32),
		"::/0":           of("::", 0),
		"::1/128":        of("::1", 128),
		"2001:db8::/32":  of("2001:db8::", 32),
		"1:0:0:4::/100":  of("1:0:0:4::", 100),
		"255.255.0.0/16": of("255.255.0.0", 16),
	} {
		if got := cidr.Format(c); got != want {
			t.Fatalf("%v: %q; want %q", c, got, want)
		}
	}
	for _, c := range wrongs() {
		if got := cidr.Format(c); got != "" {
			t.Fatalf("%v isn't right: %q", c, got)
		}
	}
}

// P3.1: what is formatted is parsed as it was.
func TestP3_1_Back(t *testing.T) {
	chance := rand.New(rand.NewSource(34))
	for range 30000 {
		c := cut(chance)
		text := cidr.Format(c)
		if want := addr.Format(c.Addr) + "/" + strconv.Itoa(c.Bits); text != want {
			t.Fatalf("%v: %q; want %q", c, text, want)
		}
		if got, err := cidr.Parse(text); got != c || err != nil {
			t.Fatalf("%q: %v, %v; want %v", text, got, err, c)
		}
	}
}

// P3.1: texts made by chance are parsed as another parser does, but that bits behind are an error here.
func TestP3_1_ParseAgainstAnother(t *testing.T) {
	heads := []string{"0.0.0.0", "10.0.0.0", "10.1.2.3", "255.255.255.0", "::", "::1", "2001:db8::", "ffff::1", "1.2.3", "", "g::", "10.0.0.0/8", "01.0.0.0"}
	slashes := []string{"/", "/", "/", "/", "/", "//", "", "/0", "/-", "/ "}
	chance := rand.New(rand.NewSource(35))
	for range 60000 {
		s := heads[chance.Intn(len(heads))] + slashes[chance.Intn(len(slashes))]
		if chance.Intn(20) > 0 {
			s += strconv.Itoa(chance.Intn(140))
		}
		got, err := cidr.Parse(s)
		other, bad := netip.ParsePrefix(s)
		if bad != nil {
			if got != (api.Cidr{}) || !errors.Is(err, api.ErrForm) && !errors.Is(err, api.ErrRange) {
				t.Fatalf("%q: %v, %v; want an error", s, got, err)
			}
			continue
		}
		if other != other.Masked() {
			if got != (api.Cidr{}) || !errors.Is(err, api.ErrAddress) {
				t.Fatalf("%q: %v, %v; want ErrAddress", s, got, err)
			}
			continue
		}
		a, _ := addr.From(other.Addr().AsSlice())
		if want := (api.Cidr{Addr: a, Bits: other.Bits()}); got != want || err != nil {
			t.Fatalf("%q: %v, %v; want %v", s, got, err, want)
		}
	}
}
