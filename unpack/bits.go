package unpack

import (
	"bale/api"
	"bale/codes"
	"bale/format"
)

// GaveUp is what the reading of bits panics with where something is wrong.
type GaveUp struct {
	Why api.Errno
}

func giveUp(why api.Errno) {
	panic(GaveUp{why})
}

// bitReader reads the bits of some bytes, one after the other.
type bitReader struct {
	data string
	at   int // the byte that the next bit is in
	bit  int // its place there, from the lowest
}

func (r *bitReader) next() int {
	if r.at == len(r.data) {
		giveUp(api.ErrEnd)
	}
	bit := int(r.data[r.at]) >> r.bit & 1
	r.bit++
	if r.bit == 8 {
		r.at, r.bit = r.at+1, 0
	}
	return bit
}

func (r *bitReader) number(bits int) int {
	number := 0
	for place := range bits {
		number |= r.next() << place
	}
	return number
}

// within reads which number of a span is meant.
func (r *bitReader) within(span format.Span) int {
	return span.Least + r.number(span.Bits)
}

func (r *bitReader) symbol(code *codes.Code) int {
	symbol, ok := code.Find(r.next)
	if !ok {
		giveUp(api.ErrSymbol)
	}
	return symbol
}

// endByte passes the bits that are left of a byte of which some were read.
func (r *bitReader) endByte() {
	if r.bit > 0 {
		r.at, r.bit = r.at+1, 0
	}
}

// nextByte reads a byte whole: none of its bits may have been read.
func (r *bitReader) nextByte() byte {
	if r.at == len(r.data) {
		giveUp(api.ErrEnd)
	}
	r.at++
	return r.data[r.at-1]
}
