package frame

import (
	"linkboy/api"
	"linkboy/octets"
)

// Stream is bytes that come in parts.
type Stream struct {
	// An array, for no more than one frame ever waits, and so that a copy of a stream goes on by itself.
	came   [headSize + api.MaxFrame]byte
	waits  int // how many of these wait
	count  int
	broken bool
}

// New is a stream of which nothing came.
func New() *Stream { return &Stream{} }

// Waits is how many bytes wait.
func (s *Stream) Waits() int { return s.waits }

// Broken tells whether it is broken.
func (s *Stream) Broken() bool { return s.broken }

// Count is how many frames were told.
func (s *Stream) Count() int { return s.count }

// Feed takes a part.
func (s *Stream) Feed(b []byte) ([]Frame, error) {
	var frames []Frame
	var err error
	if s.broken {
		return nil, api.ErrState
	}
	if s.waits >= headSize {
		goto body // an earlier part ended behind a head that is right
	}
head:
	b = s.take(b, headSize)
	if s.waits < headSize {
		goto told
	}
	if s.size() < kindSize || s.size() > api.MaxFrame {
		goto breaks
	}
body:
	b = s.take(b, headSize+s.size())
	if s.waits < headSize+s.size() {
		goto told
	}
	frames = append(frames, s.whole())
	s.waits = 0
	goto head
breaks:
	s.broken, s.waits, err = true, 0, api.ErrForm
told:
	s.count += len(frames)
	return frames, err
}

// take lets bytes wait, till so many do, and is those that it leaves.
func (s *Stream) take(b []byte, most int) []byte {
	n := copy(s.came[s.waits:most], b)
	s.waits += n
	return b[n:]
}

// size is how many bytes the head that waits tells.
func (s *Stream) size() int { return octets.At(s.came[:headSize]).Num(headSize) }

// whole is the frame that waits, whose bytes all came.
func (s *Stream) whole() Frame {
	c := octets.At(s.came[headSize:s.waits])
	return Frame{Kind: c.Num(kindSize), Body: c.Bytes(c.Left())}
}
