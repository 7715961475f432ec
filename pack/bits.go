package pack

import (
	"math/bits"

	"bale/codes"
	"bale/format"
)

// bitWriter writes bits behind one another.
type bitWriter struct {
	out   []byte
	begun uint // the bits that do not fill a byte yet
	count int  // how many those are
}

func (w *bitWriter) flag(yes bool) {
	if yes {
		w.number(1, 1)
	} else {
		w.number(0, 1)
	}
}

func (w *bitWriter) number(number, bits int) {
	w.begun |= uint(number) << w.count
	w.count += bits
	for w.count >= 8 {
		w.out = append(w.out, byte(w.begun))
		w.begun >>= 8
		w.count -= 8
	}
}

// within tells which number of a span is meant.
func (w *bitWriter) within(number int, span format.Span) {
	w.number(number-span.Least, span.Bits)
}

// endByte passes the bits that are left of a byte that is begun.
func (w *bitWriter) endByte() {
	w.number(0, leftOfByte(w.count))
}

// leftOfByte tells how many bits are wanted behind so many others until all are whole bytes.
func leftOfByte(count int) int {
	return -count & 7
}

func (w *bitWriter) symbol(symbol int, by code) {
	w.number(by.numbers[symbol], by.lengths[symbol])
}

// code is a code to write by.
type code struct {
	lengths []int
	numbers []int // the bits of each symbol the other way round, since of a number the lowest comes first
}

func newCode(lengths []int) code {
	numbers, _ := codes.Bits(lengths)
	for symbol, length := range lengths {
		numbers[symbol] = reversed(numbers[symbol], length)
	}
	return code{lengths, numbers}
}

func reversed(number, length int) int {
	return int(bits.Reverse16(uint16(number)) >> (16 - length))
}
