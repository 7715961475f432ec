package bale_test

import (
	"math"
	"math/rand"
	"slices"
	"testing"

	"bale/api"
	"bale/bale"
)

func weightOf(lengths []int) int {
	sum := 0
	for _, length := range lengths {
		if length > 0 {
			sum += 1 << (15 - length)
		}
	}
	return sum
}

// plainBits numbers the symbols one after the other, as the document's words do.
func plainBits(lengths []int) []int {
	var symbols []int
	for length := 1; length <= 15; length++ {
		for symbol := range lengths {
			if lengths[symbol] == length {
				symbols = append(symbols, symbol)
			}
		}
	}
	bits := make([]int, len(lengths))
	for i := 1; i < len(symbols); i++ {
		before, this := symbols[i-1], symbols[i]
		bits[this] = (bits[before] + 1) << (lengths[this] - lengths[before])
	}
	return bits
}

// chain is lengths 1, 2, 3 .. 15 and then more of them: with one more 15 the code is complete.
func chain(more ...int) []int {
	var lengths []int
	for length := 1; length <= 15; length++ {
		lengths = append(lengths, length)
	}
	return append(lengths, more...)
}

func repeat(n int, list ...int) []int { return slices.Repeat(list, n) }

func TestP3CodesOfKnownLengths(t *testing.T) {
	for _, c := range []struct{ lengths, want []int }{
		{[]int{3, 3, 3, 3, 3, 2, 4, 4}, []int{2, 3, 4, 5, 6, 0, 14, 15}},
		{nil, nil},
		{[]int{}, nil},
		{[]int{0}, []int{0}},
		{[]int{0, 0, 0}, []int{0, 0, 0}},
		{[]int{1}, []int{0}},
		{[]int{15}, []int{0}},
		{[]int{1, 1}, []int{0, 1}},
		{[]int{0, 1, 0, 1, 0}, []int{0, 0, 0, 1, 0}},
		{[]int{15, 1}, []int{16384, 0}},
		{[]int{15, 15, 15}, []int{0, 1, 2}},
		{[]int{4, 4, 2, 0, 15}, []int{4, 5, 0, 0, 12288}},
		{[]int{3, 2, 1, 3}, []int{6, 2, 0, 7}},
	} {
		got, err := bale.Codes(c.lengths)
		if !slices.Equal(got, c.want) || err != api.OK {
			t.Errorf("P3: Codes(%v) = %v, %d, want %v", c.lengths, got, err, c.want)
		}
	}
}

func TestP3CodesAtTheEdges(t *testing.T) {
	for name, lengths := range map[string][]int{
		"320 noughts":                repeat(320, 0),
		"320 of length 15":           repeat(320, 15),
		"320 of length 9":            repeat(320, 9),
		"319, and 1":                 append(repeat(319, 15), 1),
		"complete, of two":           repeat(2, 1),
		"complete, of 256":           repeat(256, 8),
		"complete, of 256, and 64 0": append(repeat(64, 0), repeat(256, 8)...),
		"complete, of 320":           append(repeat(192, 8), repeat(128, 9)...),
		"complete, a chain":          chain(15),
		"one less than complete":     chain(),
		"complete, longest first":    {3, 3, 2, 1},
	} {
		got, err := bale.Codes(lengths)
		if err != api.OK || !slices.Equal(got, plainBits(lengths)) {
			t.Errorf("P3: Codes of %s = %v, %d, want %v", name, got, err, plainBits(lengths))
		}
	}
}

func TestP3CodesRefused(t *testing.T) {
	for _, c := range []struct {
		name    string
		lengths []int
		want    api.Errno
	}{
		{"-1", []int{-1}, api.ErrNumber},
		{"16", []int{16}, api.ErrNumber},
		{"the least number", []int{math.MinInt}, api.ErrNumber},
		{"the greatest number", []int{math.MaxInt}, api.ErrNumber},
		{"-1 behind others", []int{1, 2, 3, -1}, api.ErrNumber},
		{"16 behind others", []int{1, 2, 3, 16}, api.ErrNumber},
		{"16 ahead of others", []int{16, 1, 2}, api.ErrNumber},
		{"321 noughts", repeat(321, 0), api.ErrNumber},
		{"321 of length 15", repeat(321, 15), api.ErrNumber},
		{"very many", repeat(1<<20, 15), api.ErrNumber},
		{"three of length 1", repeat(3, 1), api.ErrCode},
		{"a complete chain, and one", chain(15, 15), api.ErrCode},
		{"two of length 1, 318 of length 15", append(repeat(2, 1), repeat(318, 15)...), api.ErrCode},
		{"257 of length 8", repeat(257, 8), api.ErrCode},
		{"320 of length 1", repeat(320, 1), api.ErrCode},
		{"too heavy, and a wrong length", []int{1, 1, 1, 16}, api.ErrNumber},
		{"too heavy, and one below 0", []int{1, 1, 1, -1}, api.ErrNumber},
		{"too heavy, and too many", repeat(321, 1), api.ErrNumber},
	} {
		got, err := bale.Codes(c.lengths)
		if len(got) != 0 || err != c.want {
			t.Errorf("P1, P3: Codes of %s = %d numbers, %d, want %d", c.name, len(got), err, c.want)
		}
	}
}

func TestP3CodesOfAnyLengths(t *testing.T) {
	r := rand.New(rand.NewSource(4))
	answers := map[api.Errno]int{}
	for range 5000 {
		lengths := make([]int, r.Intn(321))
		least := r.Intn(10)
		for i := range lengths {
			if r.Intn(4) > 0 {
				lengths[i] = min(15, 1+least+r.Intn(14))
			}
		}
		got, err := bale.Codes(lengths)
		answers[err]++
		if weightOf(lengths) > 1<<15 {
			if err != api.ErrCode || len(got) != 0 {
				t.Fatalf("P3: Codes(%v) = %v, %d", lengths, got, err)
			}
		} else if err != api.OK || !slices.Equal(got, plainBits(lengths)) {
			t.Fatalf("P3: Codes(%v) = %v, %d, want %v", lengths, got, err, plainBits(lengths))
		}
	}
	if answers[api.OK] < 500 || answers[api.ErrCode] < 500 {
		t.Errorf("these lengths try too little: %v", answers)
	}
}
