package pack

import (
	"bale/api"
	"bale/codes"
	"bale/format"
)

// word is what letters tell: a byte or, if its count is not 0, so many bytes again from so far back.
type word struct {
	letter      byte
	count, back int
}

func (w *bitWriter) words(words []word, letters, steps code) {
	for _, one := range words {
		if one.count == 0 {
			w.symbol(int(one.letter), letters)
			continue
		}
		letter, step := format.Letter(one.count), format.Step(one.back)
		w.symbol(letter, letters)
		w.within(one.count, format.Again(letter))
		w.symbol(step, steps)
		w.within(one.back, format.Back(step))
	}
	w.symbol(format.End, letters)
}

// counts is how often each letter and each step is wanted, and how many bits the numbers behind them have.
type counts struct {
	letters [format.MostLetters]int
	steps   [format.MostSteps]int
	behind  int
}

func countsOf(words []word) *counts {
	c := &counts{}
	for _, one := range words {
		if one.count == 0 {
			c.letters[one.letter]++
			continue
		}
		letter, step := format.Letter(one.count), format.Step(one.back)
		c.letters[letter]++
		c.steps[step]++
		c.behind += format.Again(letter).Bits + format.Back(step).Bits
	}
	c.letters[format.End]++
	return c
}

// lengths tells those of the best codes, without the last letters and steps that are not in them.
func (c *counts) lengths() (letters, steps []int) {
	letters, _ = codes.Lengths(c.letters[:], api.MaxBits)
	steps, _ = codes.Lengths(c.steps[:], api.MaxBits)
	return withoutEnd(letters, format.LeastLetters), withoutEnd(steps, format.LeastSteps)
}

// withoutEnd leaves out as many 0 at the end as may be, if so many at least must stay.
func withoutEnd(lengths []int, least int) []int {
	for len(lengths) > least && lengths[len(lengths)-1] == 0 {
		lengths = lengths[:len(lengths)-1]
	}
	return lengths
}

// bits tells how many bits there are behind the codes with these lengths.
func (c *counts) bits(letters, steps []int) int {
	return c.behind + bitsOf(c.letters[:], letters) + bitsOf(c.steps[:], steps)
}

// bitsOf does without the last lengths or counts, if there are not as many of both: those symbols are never wanted.
func bitsOf(counts, lengths []int) int {
	bits := 0
	for symbol := range min(len(counts), len(lengths)) {
		bits += counts[symbol] * lengths[symbol]
	}
	return bits
}
