// Package format says what blocks are made of: their kinds, their codes, and what the letters and steps in them tell.
package format

import (
	"math/bits"
	"slices"
)

// The kinds of blocks.
const (
	AsItIs = iota
	Fixed
	Own
)

// A block with its own codes has at least so many letters, steps and lengths in its code of lengths, and not more letters and steps than the most.
const (
	LeastLetters = 257
	MostLetters  = 286
	LeastSteps   = 1
	MostSteps    = 30
	LeastLengths = 4
)

// End is the letter that ends a block: those below it are bytes, those above it are bytes again.
const End = 256

// MostAsItIs is how many bytes a block as it is has at most: what a number of 16 bits can tell.
const MostAsItIs = 1<<16 - 1

// At least and at most so many bytes come again at once, and from at most so far back.
const (
	LeastAgain = 3
	MostAgain  = 258
	MostBack   = 1 << 15
)

// Before is the symbol of the code of lengths that stands for the length before it; those behind it stand for 0, those ahead of it for themselves.
const Before = 16

// longest is the last letter: it does not go on where the one ahead of it ends, but says by itself what that one says with all its bits 1.
const longest = MostLetters - 1

// order is how the lengths of the code of lengths come: those that are rarely wanted last, so that they can be left out.
var order = [...]int{16, 17, 18, 0, 8, 7, 9, 6, 10, 5, 11, 4, 12, 3, 13, 2, 14, 1, 15}

// Lengths is how many symbols the code of lengths has.
const Lengths = len(order)

// Ordered tells the symbol of the code of lengths whose length comes in this place.
func Ordered(place int) int {
	return order[place]
}

// FixedLetters makes the lengths of the letters in a fixed block.
func FixedLetters() []int {
	return slices.Concat(repeat(8, 144), repeat(9, 112), repeat(7, 24), repeat(8, 8))
}

// FixedSteps makes the lengths of the steps in a fixed block.
func FixedSteps() []int {
	return repeat(5, 32)
}

func repeat(length, times int) []int {
	return slices.Repeat([]int{length}, times)
}

// Span is some numbers behind one another: which of them is meant, a number of so many bits tells, how much above the least.
type Span struct {
	Least, Bits int
}

// Most tells the last number of a span.
func (s Span) Most() int {
	return s.Least + 1<<s.Bits - 1
}

// Times tells how many times a symbol of the code of lengths says its length.
func Times(symbol int) Span {
	switch symbol {
	case Before:
		return Span{3, 2}
	case Before + 1:
		return Span{3, 3}
	case Before + 2:
		return Span{11, 7}
	}
	return Span{1, 0}
}

// Again tells how many bytes come again at a letter above End.
func Again(letter int) Span {
	if letter == longest {
		return Span{MostAgain, 0}
	}
	s := span(letter-End-1, 4)
	return Span{s.Least + LeastAgain, s.Bits}
}

// Letter tells the letter at which so many bytes come again.
func Letter(count int) int {
	if count == MostAgain {
		return longest
	}
	return End + 1 + spanOf(count-LeastAgain, 4)
}

// Back tells from how far back they come at a step.
func Back(step int) Span {
	s := span(step, 2)
	return Span{s.Least + 1, s.Bits}
}

// Step tells the step at which they come from so far back.
func Step(back int) int {
	return spanOf(back-1, 2)
}

// span tells the span in this place of a row of spans, which lie close behind one another from 0 on. Twice each of them have no bits; from there on each have one bit more than those ahead, so that they reach as far as all those did together.
func span(place, each int) Span {
	if place < each {
		return Span{place, 0}
	}
	bits := place/each - 1
	return Span{(each + place%each) << bits, bits}
}

// spanOf tells the place of the span that has this number in such a row.
func spanOf(number, each int) int {
	more := max(0, bits.Len(uint(number))-bits.Len(uint(each)))
	return number>>more + each*more
}
