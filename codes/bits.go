// Package codes makes codes: the bits of their symbols, and the lengths that are best for some counts.
package codes

import (
	"slices"

	"bale/api"
)

// fullWeight is the weight of a complete code.
const fullWeight = 1 << api.MaxBits

// Bits tells the bits of each symbol of the code with these lengths.
func Bits(lengths []int) ([]int, api.Errno) {
	if len(lengths) > api.MaxSymbols || slices.ContainsFunc(lengths, isNoLength) {
		return nil, api.ErrNumber
	}
	if weight(lengths) > fullWeight {
		return nil, api.ErrCode
	}
	next := firstBits(lengths)
	bits := make([]int, len(lengths))
	for symbol, length := range lengths {
		if length > 0 {
			bits[symbol] = next[length]
			next[length]++
		}
	}
	return bits, api.OK
}

func isNoLength(length int) bool {
	return length < 0 || length > api.MaxBits
}

func weight(lengths []int) int {
	sum := 0
	for _, length := range lengths {
		if length > 0 {
			sum += fullWeight >> length
		}
	}
	return sum
}

// perLength tells how many symbols have each length; those that are not in the code are not told, though their length is 0.
func perLength(lengths []int) [api.MaxBits + 1]int {
	var symbols [api.MaxBits + 1]int
	for _, length := range lengths {
		if length > 0 {
			symbols[length]++
		}
	}
	return symbols
}

// firstBits tells for each length the bits of the first symbol that has it.
func firstBits(lengths []int) [api.MaxBits + 1]int {
	var first [api.MaxBits + 1]int
	symbols := perLength(lengths)
	for length := 1; length <= api.MaxBits; length++ {
		first[length] = (first[length-1] + symbols[length-1]) << 1
	}
	return first
}
