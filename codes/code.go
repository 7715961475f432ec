package codes

import "bale/api"

// Code is a code whose symbols can be found by their bits.
type Code struct {
	weight    int
	perLength [api.MaxBits + 1]int
	symbols   []int // in the order of their bits
}

// New makes the code with these lengths, which are 0 to MaxBits.
func New(lengths []int) *Code {
	c := &Code{weight: weight(lengths), perLength: perLength(lengths)}
	var place [api.MaxBits + 1]int
	for length := 1; length < api.MaxBits; length++ {
		place[length+1] = place[length] + c.perLength[length]
	}
	c.symbols = make([]int, place[api.MaxBits]+c.perLength[api.MaxBits])
	for symbol, length := range lengths {
		if length > 0 {
			c.symbols[place[length]] = symbol
			place[length]++
		}
	}
	return c
}

// IsComplete tells whether each row of bits begins with a symbol's.
func (c *Code) IsComplete() bool {
	return c.weight == fullWeight
}

// IsAlone tells whether one symbol alone is in it, of length 1.
func (c *Code) IsAlone() bool {
	return len(c.symbols) == 1 && c.perLength[1] == 1
}

// IsEmpty tells whether no symbol is in it.
func (c *Code) IsEmpty() bool {
	return len(c.symbols) == 0
}

// Find asks for bits until they are a symbol's; it answers false if MaxBits of them are none. The code must not have more than the weight of a complete one.
func (c *Code) Find(bit func() int) (int, bool) {
	above := 0 // the bits less those of the first symbol of that length
	shorter := 0
	for _, symbols := range c.perLength[1:] {
		above = above<<1 | bit()
		if above < symbols {
			return c.symbols[shorter+above], true
		}
		above -= symbols
		shorter += symbols
	}
	return 0, false
}
