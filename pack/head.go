package pack

import (
	"slices"

	"bale/codes"
	"bale/format"
)

// How many bits the three numbers ahead of a block's own codes have, and each length of the code of lengths; so that code has none above the most.
const (
	lettersBits = 5
	stepsBits   = 5
	orderedBits = 4
	lengthBits  = 3
	mostLength  = 1<<lengthBits - 1
)

// head tells the codes of a block with its own.
type head struct {
	letters, steps int
	ordered        []int // the lengths of the code of lengths, as they come
	code           code  // of lengths
	runs           []run
}

// run is a symbol of the code of lengths, that says its length so many times.
type run struct {
	symbol, times int
}

func headOf(letters, steps []int) *head {
	runs := runsOf(slices.Concat(letters, steps))
	lengths := lengthsFor(runs)
	return &head{len(letters), len(steps), ordered(lengths), newCode(lengths), runs}
}

func runsOf(lengths []int) []run {
	var runs []run
	for at := 0; at < len(lengths); {
		r := runAt(lengths, at)
		runs = append(runs, r)
		at += r.times
	}
	return runs
}

// runAt tries the symbols that say the most first.
func runAt(lengths []int, at int) run {
	same := sameFrom(lengths[at:])
	for symbol := format.Lengths - 1; symbol >= format.Before; symbol-- {
		times := format.Times(symbol)
		if same >= times.Least && says(symbol, lengths, at) {
			return run{symbol, min(same, times.Most())}
		}
	}
	return run{lengths[at], 1}
}

// says tells whether a symbol that says more than one length says the one that is there.
func says(symbol int, lengths []int, at int) bool {
	if symbol == format.Before {
		return at > 0 && lengths[at-1] == lengths[at]
	}
	return lengths[at] == 0
}

func sameFrom(lengths []int) int {
	same := 1
	for same < len(lengths) && lengths[same] == lengths[0] {
		same++
	}
	return same
}

// lengthsFor tells those of the code of lengths. It is complete, as it must be, since two symbols at least are wanted: letters that are all of one length would be as many as a power of 2, and none lies between the least and the most of them.
func lengthsFor(runs []run) []int {
	counts := make([]int, format.Lengths)
	for _, r := range runs {
		counts[r.symbol]++
	}
	lengths, _ := codes.Lengths(counts, mostLength)
	return lengths
}

func ordered(lengths []int) []int {
	row := make([]int, format.Lengths)
	for place := range row {
		row[place] = lengths[format.Ordered(place)]
	}
	return withoutEnd(row, format.LeastLengths)
}

func (h *head) bits() int {
	bits := lettersBits + stepsBits + orderedBits + lengthBits*len(h.ordered)
	for _, r := range h.runs {
		bits += h.code.lengths[r.symbol] + format.Times(r.symbol).Bits
	}
	return bits
}

func (w *bitWriter) head(h *head) {
	w.number(h.letters-format.LeastLetters, lettersBits)
	w.number(h.steps-format.LeastSteps, stepsBits)
	w.number(len(h.ordered)-format.LeastLengths, orderedBits)
	for _, length := range h.ordered {
		w.number(length, lengthBits)
	}
	for _, r := range h.runs {
		w.symbol(r.symbol, h.code)
		w.within(r.times, format.Times(r.symbol))
	}
}
