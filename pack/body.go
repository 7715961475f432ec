package pack

import "bale/format"

// body is a block behind its first bit: how many bits it has, and what writes them.
type body struct {
	bits  int
	write func(w *bitWriter)
}

func shorter(a, b body) body {
	if b.bits < a.bits {
		return b
	}
	return a
}

// kindBits is how many bits tell a block's kind, and countBits each of the two numbers of one as it is.
const (
	kindBits  = 2
	countBits = 16
)

// asItIs is the piece as it is, where so many bits of a byte are written.
func asItIs(piece string, begun int) body {
	bits := kindBits + leftOfByte(begun+kindBits) + 2*countBits + 8*len(piece)
	return body{bits, func(w *bitWriter) {
		w.number(format.AsItIs, kindBits)
		w.endByte()
		w.number(len(piece), countBits)
		w.number(format.MostAsItIs-len(piece), countBits)
		w.out = append(w.out, piece...)
	}}
}

// fixed is the words by the fixed codes.
func fixed(words []word, c *counts) body {
	letters, steps := format.FixedLetters(), format.FixedSteps()
	return body{kindBits + c.bits(letters, steps), func(w *bitWriter) {
		w.number(format.Fixed, kindBits)
		w.words(words, newCode(letters), newCode(steps))
	}}
}

// own is the words by the codes that are best for them.
func own(words []word, c *counts) body {
	letters, steps := c.lengths()
	h := headOf(letters, steps)
	return body{kindBits + h.bits() + c.bits(letters, steps), func(w *bitWriter) {
		w.number(format.Own, kindBits)
		w.head(h)
		w.words(words, newCode(letters), newCode(steps))
	}}
}
