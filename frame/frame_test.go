package frame_test

import (
	"bytes"
	"errors"
	"math"
	"math/rand"
	"slices"
	"strings"
	"testing"

	"linkboy/api"
	"linkboy/frame"
)

// of is a frame of a text.
func of(kind int, body string) frame.Frame { return frame.Frame{Kind: kind, Body: []byte(body)} }

// like holds frames against others, without the package's own Same.
func like(got, want []frame.Frame) bool {
	return slices.EqualFunc(got, want, func(a, b frame.Frame) bool {
		return a.Kind == b.Kind && string(a.Body) == string(b.Body)
	})
}

// told is what must be told of all bytes of a stream, that came in one part or in many.
type told struct {
	frames []frame.Frame
	waits  int
	broken bool
}

// tell is what must be told of bytes: frame behind frame, each by itself.
func tell(text string) told {
	if len(text) < 2 {
		return told{waits: len(text)}
	}
	size := int(text[0])*256 + int(text[1])
	switch {
	case size == 0 || size > 1200:
		return told{broken: true}
	case len(text)-2 < size:
		return told{waits: len(text)}
	}
	rest := tell(text[2+size:])
	rest.frames = append([]frame.Frame{of(int(text[2]), text[3:2+size])}, rest.frames...)
	return rest
}

// streams is the bytes of streams that show every edge of the chapter, and some made by chance.
func streams() []string {
	most, over := "\x04\xb0\xff"+strings.Repeat("m", 1199), "\x04\xb1\x01"+strings.Repeat("o", 1200)
	list := []string{
		"", "\x00", "\x01", "\xff", "\x00\x01", "\x00\x02", "\x01\x00", "\x04\xb0", "\x00\x00", "\x04\xb1", "\x05\x00", "\xff\xff", "\x80\x01",
		"\x00\x02\x07\x09", "\x00\x02\x07", "\x00\x02\x07\x09\x00", "\x00\x02\x07\x09\x00\x00", "\x00\x02\x07\x09\x00\x01\x00",
		"\x00\x01\x00", "\x00\x01\xff", "\x00\x01\x05\x00\x01\x06\x00\x01\x07", "\x00\x03\x00\x00\x00\x00\x02\x01\x01",
		"\x00\x00\x00\x02\x07\x09", "\x00\x02\x07\x09\x00\x00\x00\x02\x07\x09", "\x00\x01\x01\x04\xb1\x00\x01\x02",
		most, most[:1201], most[:1200], most + most, most + "\x00", most + "\x00\x00\x00", over, over[:2], "\x00\x01\x00" + over, most + over + most,
		"\x00\xff" + strings.Repeat("a", 255) + "\x01\x00" + strings.Repeat("b", 256) + "\x01\x01" + strings.Repeat("c", 257),
	}
	chance := rand.New(rand.NewSource(12))
	for range 400 {
		list = append(list, stream(chance))
	}
	return list
}

// stream is the bytes of some frames by chance, at times broken, or not whole, at their end.
func stream(chance *rand.Rand) string {
	text := ""
	for range chance.Intn(6) {
		size := 1 + chance.Intn(5)
		if chance.Intn(8) == 0 {
			size = 1 + chance.Intn(1200)
		}
		body := make([]byte, size)
		chance.Read(body)
		text += string([]byte{byte(size >> 8), byte(size)}) + string(body)
	}
	switch chance.Intn(4) {
	case 0:
		text += "\x00\x00\x00\x01\x05"
	case 1:
		text += "\x04\xb1\x00\x01\x05"
	case 2:
		text = text[:len(text)-min(len(text), chance.Intn(4))]
	}
	return text
}

// P12.1: two bytes that tell how many follow, the high one first, a kind, and a body.
func TestP12_1_Bytes(t *testing.T) {
	for _, x := range []struct {
		kind int
		body string
		want string
	}{
		{7, "\x09", "\x00\x02\x07\x09"},
		{0, "", "\x00\x01\x00"},
		{255, "", "\x00\x01\xff"},
		{128, "\x00\x00", "\x00\x03\x80\x00\x00"},
		{1, strings.Repeat("x", 254), "\x00\xff\x01" + strings.Repeat("x", 254)},
		{1, strings.Repeat("x", 255), "\x01\x00\x01" + strings.Repeat("x", 255)},
		{2, strings.Repeat("y", 1023), "\x04\x00\x02" + strings.Repeat("y", 1023)},
		{3, strings.Repeat("z", 1198), "\x04\xaf\x03" + strings.Repeat("z", 1198)},
		{3, strings.Repeat("z", 1199), "\x04\xb0\x03" + strings.Repeat("z", 1199)},
	} {
		got, err := frame.Bytes(of(x.kind, x.body))
		if err != nil || string(got) != x.want {
			t.Errorf("kind %d, %d bytes: %q, %v; want %q", x.kind, len(x.body), got, err, x.want)
		}
	}
	if got, err := frame.Bytes(frame.Frame{Kind: 9}); err != nil || string(got) != "\x00\x01\x09" {
		t.Errorf("without a body: %q, %v", got, err)
	}
}

// P12.1: a kind that isn't from 0 to 255, however many bytes there are; and more than MaxFrame bytes.
func TestP12_1_BytesWrong(t *testing.T) {
	for _, x := range []struct {
		kind, size int
		want       error
	}{
		{-1, 0, api.ErrRange},
		{256, 0, api.ErrRange},
		{256 + 7, 1, api.ErrRange},
		{math.MaxInt, 1, api.ErrRange},
		{math.MinInt, 1, api.ErrRange},
		{math.MinInt + 7, 1, api.ErrRange},
		{-1, 1200, api.ErrRange},
		{256, 5000, api.ErrRange},
		{0, 1200, api.ErrLong},
		{255, 1200, api.ErrLong},
		{0, 1201, api.ErrLong},
		{7, 65535, api.ErrLong},
		{7, 65536, api.ErrLong},
		{7, 65536 + 5, api.ErrLong},
	} {
		got, err := frame.Bytes(frame.Frame{Kind: x.kind, Body: make([]byte, x.size)})
		if len(got) > 0 || !errors.Is(err, x.want) {
			t.Errorf("kind %d, %d bytes: %q, %v; want %v", x.kind, x.size, got, err, x.want)
		}
	}
}

// P12.1: the bytes of a frame are read as that frame, each kind and each number of bytes.
func TestP12_1_BytesRead(t *testing.T) {
	chance := rand.New(rand.NewSource(121))
	for size := range 1200 {
		body := make([]byte, size)
		chance.Read(body)
		f := frame.Frame{Kind: size % 256, Body: body}
		b, err := frame.Bytes(f)
		if err != nil || len(b) != size+3 {
			t.Fatalf("%d bytes: %d, %v", size, len(b), err)
		}
		got, left, err := frame.Cut(b)
		if err != nil || left != 0 || !like(got, []frame.Frame{f}) {
			t.Fatalf("%d bytes: %v, %d, %v; want %v", size, got, left, err, f)
		}
		got, err = frame.New().Feed(b)
		if err != nil || !like(got, []frame.Frame{f}) {
			t.Fatalf("%d bytes, fed: %v, %v; want %v", size, got, err, f)
		}
	}
}

// P12.1: the frames that bytes begin with, how many bytes are left, and whether they break.
func TestP12_1_Cut(t *testing.T) {
	for _, x := range []struct {
		text string
		want []frame.Frame
		left int
		err  error
	}{
		{"", nil, 0, nil},
		{"\x00", nil, 1, nil},
		{"\xff", nil, 1, nil},
		{"\x00\x01", nil, 2, nil},
		{"\x00\x02\x07", nil, 3, nil},
		{"\x00\x02\x07\x09", []frame.Frame{of(7, "\x09")}, 0, nil},
		{"\x00\x02\x07\x09\x00", []frame.Frame{of(7, "\x09")}, 1, nil},
		{"\x00\x01\x05\x00\x01\x06", []frame.Frame{of(5, ""), of(6, "")}, 0, nil},
		{"\x00\x01\x05\x00\x03\x06\x08", []frame.Frame{of(5, "")}, 4, nil},
		{"\x00\x03\x00\x00\x00\x00\x01\x00", []frame.Frame{of(0, "\x00\x00"), of(0, "")}, 0, nil},
		{"\x00\x00", nil, 0, api.ErrForm},
		{"\x04\xb1", nil, 0, api.ErrForm},
		{"\xff\xff\x00\x01\x05", nil, 0, api.ErrForm},
		{"\x00\x01\x05\x00\x00", []frame.Frame{of(5, "")}, 0, api.ErrForm},
		{"\x00\x01\x05\x04\xb1\x00\x01\x06", []frame.Frame{of(5, "")}, 0, api.ErrForm},
		{"\x04\xb0\x05" + strings.Repeat("e", 1198), nil, 1201, nil},
		{"\x04\xb0\x05" + strings.Repeat("e", 1199), []frame.Frame{of(5, strings.Repeat("e", 1199))}, 0, nil},
		{"\x04\xb0\x05" + strings.Repeat("e", 1200), []frame.Frame{of(5, strings.Repeat("e", 1199))}, 1, nil},
	} {
		got, left, err := frame.Cut([]byte(x.text))
		if !like(got, x.want) || left != x.left || !errors.Is(err, x.err) {
			t.Errorf("%q: %v, %d, %v; want %v, %d, %v", x.text, got, left, err, x.want, x.left, x.err)
		}
	}
}

// P12.1: all that bytes begin with, up to each of their places.
func TestP12_1_CutAnywhere(t *testing.T) {
	for _, text := range streams() {
		for end := range len(text) + 1 {
			if len(text) > 50 && end > 10 && end < len(text)-10 && end%13 > 0 {
				continue
			}
			want := tell(text[:end])
			got, left, err := frame.Cut([]byte(text[:end]))
			if !like(got, want.frames) || left != want.waits || errors.Is(err, api.ErrForm) != want.broken || (err != nil) != want.broken {
				t.Fatalf("%q: %v, %d, %v; want %v", text[:end], got, left, err, want)
			}
		}
	}
}

// P12.1: frames are the same, if their kinds and their bodies are.
func TestP12_1_Same(t *testing.T) {
	for _, x := range []struct {
		a, b frame.Frame
		want bool
	}{
		{of(7, "a"), of(7, "a"), true},
		{of(7, "a"), of(8, "a"), false},
		{of(7, "a"), of(7, "b"), false},
		{of(7, "a"), of(7, ""), false},
		{of(7, "a"), of(7, "aa"), false},
		{of(7, "ab"), of(7, "ac"), false},
		{of(7, "ab"), of(7, "bb"), false},
		{of(7, ""), of(7, ""), true},
		{of(7, ""), frame.Frame{Kind: 7}, true},
		{frame.Frame{}, frame.Frame{}, true},
		{frame.Frame{}, of(0, "\x00"), false},
		{of(7, ""), of(7+256, ""), false},
		{of(-1, ""), of(255, ""), false},
		{of(math.MaxInt, "a"), of(math.MaxInt, "a"), true},
		{of(math.MinInt, "a"), of(math.MaxInt, "a"), false},
		{of(300, strings.Repeat("l", 2000)), of(300, strings.Repeat("l", 2000)), true},
		{of(300, strings.Repeat("l", 2000)), of(300, strings.Repeat("l", 1999)+"m"), false},
	} {
		if frame.Same(x.a, x.b) != x.want || frame.Same(x.b, x.a) != x.want {
			t.Errorf("%v, %v: not %v", x.a, x.b, x.want)
		}
	}
}

// held is bytes with room behind them, and a call that tells whether any of it was written to.
func held(text string) ([]byte, func() bool) {
	room := []byte(text + "behind the bytes")
	was := string(room)
	return room[:len(text)], func() bool { return string(room) == was }
}

// P12.1: no call writes to what it is given, or to the room behind it; an answer stays as it is, whatever becomes of that, and each call says the same again.
func TestP12_1_Apart(t *testing.T) {
	body, same := held("body")
	f := frame.Frame{Kind: 7, Body: body}
	b, err := frame.Bytes(f)
	again, _ := frame.Bytes(f)
	wipe(b)
	if err != nil || !same() || string(again) != "\x00\x05\x07body" || !frame.Same(f, of(7, "body")) || !same() {
		t.Errorf("Bytes: %q, %v", again, err)
	}
	text := "\x00\x03\x01ab\x00\x03\x02cd\x00\x01\x03\x00\x03\x04e"
	want := []frame.Frame{of(1, "ab"), of(2, "cd"), of(3, "")}
	b, same = held(text)
	got, left, err := frame.Cut(b)
	if !same() || !like(got, want) || left != 4 || err != nil {
		t.Errorf("Cut: %v, %d, %v", got, left, err)
	}
	wipe(b)
	if !like(got, want) {
		t.Errorf("behind a change of the bytes: %v", got)
	}
	b, same = held(text)
	got, _, _ = frame.Cut(b)
	for i := range got {
		wipe(append(got[i].Body, "more"...))
		wipe(got[i].Body)
		if !same() || !like(got[i+1:], want[i+1:]) {
			t.Errorf("behind a change of frame %d: %v", i, got)
		}
	}
}

// wipe writes over bytes.
func wipe(b []byte) {
	for i := range b {
		b[i] = '!'
	}
}

// P12.1: all bytes are cut, and told, without a panic.
func TestP12_1_AllBytes(t *testing.T) {
	chance := rand.New(rand.NewSource(122))
	for range 2000 {
		b := make([]byte, chance.Intn(40))
		chance.Read(b)
		for i := range b {
			if chance.Intn(3) > 0 {
				b[i] %= 4
			}
		}
		want := tell(string(b))
		got, left, _ := frame.Cut(b)
		if !like(got, want.frames) || left != want.waits {
			t.Fatalf("%q: %v, %d; want %v", b, got, left, want)
		}
		var back []byte
		for _, f := range got {
			more, err := frame.Bytes(f)
			if err != nil {
				t.Fatalf("%q: %v, %v", b, f, err)
			}
			back = append(back, more...)
		}
		if !bytes.HasPrefix(b, back) {
			t.Fatalf("%q: %q", b, back)
		}
	}
}
