// Package bale: texts made small, and themselves again: see DOC.md.
package bale

import (
	"sync"

	"bale/api"
	"bale/codes"
	"bale/frame"
	"bale/pack"
	"bale/sum"
	"bale/unpack"
)

// Stream is what texts are written to and bytes taken from. Several may use it at once: each call holds its lock.
type Stream struct {
	lock   sync.Mutex
	packer *pack.Packer
	closed bool
}

// Sum tells a text's sum (P3).
func Sum(text string) uint32 { return sum.Of(text) }

// Codes tells the bits of a code's symbols (P3).
func Codes(lengths []int) ([]int, api.Errno) { return codes.Bits(lengths) }

// Lengths tells the best code's lengths (P4).
func Lengths(counts []int, most int) ([]int, api.Errno) { return codes.Lengths(counts, most) }

// Inflate unpacks (P5).
func Inflate(data string, most int) (string, int, api.Errno) {
	reader := unpack.New(data, most)
	switch why := whyGivenUp(reader.Blocks); why {
	case api.OK:
		return reader.Text(), reader.Used(), api.OK
	case api.ErrEnd:
		return reader.Text(), 0, api.ErrEnd
	default:
		return "", 0, why
	}
}

// whyGivenUp reads, and tells why the reader gave up: OK if it did not.
func whyGivenUp(read func()) (why api.Errno) {
	defer func() {
		switch fault := recover().(type) {
		case nil:
		case unpack.GaveUp:
			why = fault.Why
		default: // no reader's doing: to go on would be to answer something wrong
			panic(fault)
		}
	}()
	read()
	return api.OK
}

// Unframe unpacks what has a frame (P6).
func Unframe(data string, most int) (string, api.Errno) {
	if err := frame.Begin(data); err != api.OK {
		return "", err
	}
	blocks := data[frame.Ahead:]
	text, used, err := Inflate(blocks, most)
	if err != api.OK {
		return "", err
	}
	if err := frame.End(blocks[used:], text); err != api.OK {
		return "", err
	}
	return text, api.OK
}

// Deflate packs (P7).
func Deflate(text string, level int) (string, api.Errno) {
	if !isLevel(level) {
		return "", api.ErrNumber
	}
	packer := pack.New(level)
	packer.Add(text)
	packer.End()
	return packer.Take(), api.OK
}

func isLevel(level int) bool {
	return 0 <= level && level <= api.MaxLevel
}

// Frame packs, with a frame (P7).
func Frame(text string, level int) (string, api.Errno) {
	blocks, err := Deflate(text, level)
	if err != api.OK {
		return "", err
	}
	return frame.Around(blocks, text), api.OK
}

// New makes a stream (P8).
func New(level int) (*Stream, api.Errno) {
	if !isLevel(level) {
		return nil, api.ErrNumber
	}
	return &Stream{packer: pack.New(level)}, api.OK
}

// Write writes a text (P8).
func (s *Stream) Write(text string) api.Errno {
	s.lock.Lock()
	defer s.lock.Unlock()
	if s.closed {
		return api.ErrClosed
	}
	s.packer.Add(text)
	return api.OK
}

// Flush brings out what was written (P8).
func (s *Stream) Flush(full bool) api.Errno {
	s.lock.Lock()
	defer s.lock.Unlock()
	if s.closed {
		return api.ErrClosed
	}
	s.packer.Flush(full)
	return api.OK
}

// Close ends it (P8).
func (s *Stream) Close() api.Errno {
	s.lock.Lock()
	defer s.lock.Unlock()
	if s.closed {
		return api.ErrClosed
	}
	s.closed = true
	s.packer.End()
	return api.OK
}

// Take tells the bytes that came (P8).
func (s *Stream) Take() string {
	s.lock.Lock()
	defer s.lock.Unlock()
	return s.packer.Take()
}
