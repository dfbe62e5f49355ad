package frame_test

import (
	"errors"
	"math/rand"
	"strings"
	"testing"

	"linkboy/api"
	"linkboy/frame"
)

// state holds what a stream tells of itself against what it should.
func state(t *testing.T, s *frame.Stream, waits, count int, broken bool) {
	t.Helper()
	if s.Waits() != waits || s.Count() != count || s.Broken() != broken {
		t.Fatalf("waits %d, count %d, broken %v; want %d, %d, %v", s.Waits(), s.Count(), s.Broken(), waits, count, broken)
	}
}

// fed feeds a part, all bytes ahead of which are was, and holds all that is told of it against what must be.
func fed(t *testing.T, s *frame.Stream, was, part string) {
	t.Helper()
	ahead, want := tell(was), tell(was+part)
	got, err := s.Feed([]byte(part))
	wrong := error(nil)
	switch {
	case ahead.broken:
		wrong = api.ErrState
	case want.broken:
		wrong = api.ErrForm
	}
	if !errors.Is(err, wrong) {
		t.Fatalf("%q behind %q: %v; want %v", part, was, err, wrong)
	}
	if !like(got, want.frames[len(ahead.frames):]) {
		t.Fatalf("%q behind %q: %v; want %v", part, was, got, want.frames[len(ahead.frames):])
	}
	state(t, s, want.waits, len(want.frames), want.broken)
}

// P12.1: a stream of which nothing came, apart from every other one.
func TestP12_1_New(t *testing.T) {
	s, other := frame.New(), frame.New()
	state(t, s, 0, 0, false)
	fed(t, s, "", "\x00\x01\x05\x00")
	state(t, other, 0, 0, false)
	fed(t, other, "", "\x00\x00")
	state(t, s, 1, 1, false)
	state(t, frame.New(), 0, 0, false)
}

// P12.1: the frames that are whole with each part, and what the stream tells behind it.
func TestP12_1_Feed(t *testing.T) {
	s := frame.New()
	for _, x := range []struct {
		part  string
		want  []frame.Frame
		waits int
		count int
	}{
		{"", nil, 0, 0},
		{"\x00", nil, 1, 0},
		{"", nil, 1, 0},
		{"\x02", nil, 2, 0},
		{"", nil, 2, 0},
		{"\x07", nil, 3, 0},
		{"\x09", []frame.Frame{of(7, "\x09")}, 0, 1},
		{"", nil, 0, 1},
		{"\x00\x01\x00\x00\x01\xff\x00", []frame.Frame{of(0, ""), of(255, "")}, 1, 3},
		{"\x04\x01a", nil, 4, 3},
		{"bc\x00\x02\x02d\x01", []frame.Frame{of(1, "abc"), of(2, "d")}, 1, 5},
		{"\x00\x03" + strings.Repeat("e", 254), nil, 257, 5},
		{"f\x00\x01", []frame.Frame{of(3, strings.Repeat("e", 254)+"f")}, 2, 6},
		{"\x04", []frame.Frame{of(4, "")}, 0, 7},
		{"\x04\xb0\x05" + strings.Repeat("g", 1198), nil, 1201, 7},
		{"h", []frame.Frame{of(5, strings.Repeat("g", 1198)+"h")}, 0, 8},
	} {
		got, err := s.Feed([]byte(x.part))
		if err != nil || !like(got, x.want) {
			t.Fatalf("%q: %v, %v; want %v", x.part, got, err, x.want)
		}
		state(t, s, x.waits, x.count, false)
	}
}

// P12.1: a stream breaks as soon as two bytes tell 0 or more than MaxFrame: those ahead are told, nothing waits, and nothing comes any more.
func TestP12_1_FeedBreaks(t *testing.T) {
	for _, x := range []struct {
		parts []string
		count int
	}{
		{[]string{"\x00\x00"}, 0},
		{[]string{"\x00", "\x00"}, 0},
		{[]string{"\x04\xb1"}, 0},
		{[]string{"\x04", "\xb1"}, 0},
		{[]string{"\x05\x00"}, 0},
		{[]string{"\x05", "\x00"}, 0},
		{[]string{"\xff\xff"}, 0},
		{[]string{"\x80\x01\x05"}, 0},
		{[]string{"\x00\x01\x05\x00\x00"}, 1},
		{[]string{"\x00\x01\x05\x00", "\x00"}, 1},
		{[]string{"\x00\x01\x05", "\x00\x02\x05", "a\x00\x01\x06\x00\x00\x00\x01\x07"}, 3},
		{[]string{"\x04\xb0\x05" + strings.Repeat("a", 1198), "a\x04", "\xb1\x05" + strings.Repeat("a", 1200)}, 1},
	} {
		s, was := frame.New(), ""
		for _, part := range x.parts {
			fed(t, s, was, part)
			was += part
		}
		state(t, s, 0, x.count, true)
		for _, part := range []string{"", "\x00", "\x00\x01\x05", "\x00\x00", "\x00\x01\x05\x00\x00"} {
			if got, err := s.Feed([]byte(part)); len(got) > 0 || !errors.Is(err, api.ErrState) {
				t.Fatalf("%q behind %q: %v, %v; want %v", part, x.parts, got, err, api.ErrState)
			}
			state(t, s, 0, x.count, true)
		}
		if got, err := s.Feed(nil); len(got) > 0 || !errors.Is(err, api.ErrState) {
			t.Fatalf("nothing behind %q: %v, %v; want %v", x.parts, got, err, api.ErrState)
		}
	}
}

// P12.1: short streams, cut in every way.
func TestP12_1_EveryWay(t *testing.T) {
	for _, text := range streams() {
		if len(text) > 11 {
			continue
		}
		for cuts := range 1 << max(len(text)-1, 0) {
			s, from := frame.New(), 0
			for end := 1; end <= len(text); end++ {
				if end == len(text) || cuts>>(end-1)&1 == 1 {
					fed(t, s, text[:from], text[from:end])
					from = end
				}
			}
		}
	}
}

// P12.1: streams cut at any place, byte by byte, and by chance, with empty parts among them.
func TestP12_1_AnyWay(t *testing.T) {
	chance := rand.New(rand.NewSource(123))
	for _, text := range streams() {
		for range 12 {
			cut := chance.Intn(len(text) + 1)
			s := frame.New()
			fed(t, s, "", text[:cut])
			fed(t, s, text[:cut], text[cut:])
		}
		for _, most := range []int{1, 2, 3, 7, 700, 1202} {
			s := frame.New()
			for from := 0; from < len(text); {
				end := min(len(text), from+chance.Intn(most+1))
				if most == 1 {
					end = from + 1
				}
				fed(t, s, text[:from], text[from:end])
				from = end
			}
		}
	}
}

// P12.1: a long stream comes as one part, and as many, and counts all of its frames.
func TestP12_1_Long(t *testing.T) {
	text := strings.Repeat("\x00\x01\x01\x00\x04\x02abc\x04\xb0\x03"+strings.Repeat("d", 1199), 300)
	want := tell(text)
	s := frame.New()
	if got, err := s.Feed([]byte(text)); err != nil || !like(got, want.frames) {
		t.Fatalf("%d frames, %v; want %d", len(got), err, len(want.frames))
	}
	state(t, s, 0, 900, false)
	s = frame.New()
	var all []frame.Frame
	for from := range len(text) {
		got, err := s.Feed([]byte{text[from]})
		if err != nil {
			t.Fatal(err)
		}
		all = append(all, got...)
	}
	state(t, s, 0, 900, false)
	if !like(all, want.frames) {
		t.Fatalf("%d frames; want %d", len(all), len(want.frames))
	}
}

// P12.1: a stream keeps nothing of its parts, writes to none of them, and tells nothing that it still uses.
func TestP12_1_FeedApart(t *testing.T) {
	s := frame.New()
	part, same := held("\x00\x04\x01ab")
	if _, err := s.Feed(part); err != nil || !same() {
		t.Fatalf("%q, %v", part, err)
	}
	wipe(part)
	part, same = held("c\x00\x03\x02de\x00\x05\x03fg")
	first, err := s.Feed(part)
	want := []frame.Frame{of(1, "abc"), of(2, "de")}
	if err != nil || !same() || !like(first, want) {
		t.Fatalf("%v, %v; want %v", first, err, want)
	}
	wipe(part)
	if !like(first, want) {
		t.Fatalf("behind a change of the part: %v; want %v", first, want)
	}
	wipe(append(first[0].Body, "more"...))
	wipe(first[0].Body)
	if !like(first[1:], want[1:]) {
		t.Fatalf("behind a change of a frame: %v; want %v", first, want)
	}
	part, same = held("hi\x00\x02\x04j")
	second, err := s.Feed(part)
	if err != nil || !same() || !like(second, []frame.Frame{of(3, "fghi"), of(4, "j")}) || !like(first[1:], want[1:]) {
		t.Fatalf("%v, %v, behind %v", second, err, first)
	}
	part, same = held("\x00\x02\x05k\x00\x00\x00\x02")
	third, err := s.Feed(part)
	if !errors.Is(err, api.ErrForm) || !same() || !like(third, []frame.Frame{of(5, "k")}) {
		t.Fatalf("%v, %v", third, err)
	}
	part, same = held("\x00\x02\x06l")
	if _, err = s.Feed(part); !errors.Is(err, api.ErrState) || !same() {
		t.Fatalf("%q, %v", part, err)
	}
	state(t, s, 0, 5, true)
}

// P12.1: what a stream tells of itself changes nothing of it.
func TestP12_1_Asked(t *testing.T) {
	for _, text := range streams() {
		if len(text) > 60 {
			continue
		}
		s := frame.New()
		for at := range len(text) {
			fed(t, s, text[:at], text[at:at+1])
			want := tell(text[:at+1])
			for range 3 {
				state(t, s, want.waits, len(want.frames), want.broken)
			}
		}
	}
}

// P12.1: a copy of a stream goes on by itself, and so does the stream.
func TestP12_1_Copy(t *testing.T) {
	s, was := frame.New(), "\x00\x01\x01\x00\x05\x02a"
	fed(t, s, "", was)
	c := *s
	fed(t, s, was, "b")
	fed(t, &c, was, "x")
	fed(t, s, was+"b", "cd\x00\x02")
	fed(t, &c, was+"x", "yz\x00\x00")
	fed(t, s, was+"bcd\x00\x02", "\x03e")
}
