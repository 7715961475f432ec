package bale_test

import "testing"

// block is how a block begins and, of one as it is, the bits that are passed in it and how many bytes it has.
type block struct {
	last                bool
	kind, passed, bytes int
}

// blockWalker goes through the bits of blocks without telling their text.
type blockWalker struct {
	t    *testing.T
	data string
	at   int // in bits
}

// blocksOf tells the blocks that some data is made of, the last of which must end in its last byte.
func blocksOf(t *testing.T, data string) []block {
	t.Helper()
	w := &blockWalker{t: t, data: data}
	var blocks []block
	for w.at < 8*len(data) {
		b := w.block()
		blocks = append(blocks, b)
		if b.last {
			w.number(-w.at & 7)
		}
	}
	if w.at != 8*len(data) {
		w.cut()
	}
	return blocks
}

func (w *blockWalker) cut() {
	w.t.Helper()
	w.t.Fatalf("the last block of %.40x (%d bytes) does not end with it", w.data, len(w.data))
}

func (w *blockWalker) number(bits int) int {
	w.t.Helper()
	number := 0
	for place := range bits {
		if w.at >= 8*len(w.data) {
			w.cut()
		}
		number |= int(w.data[w.at/8]) >> (w.at % 8) & 1 << place
		w.at++
	}
	return number
}

func (w *blockWalker) block() block {
	w.t.Helper()
	b := block{last: w.number(1) == 1, kind: w.number(2)}
	switch b.kind {
	case 0:
		b.passed = w.number(-w.at & 7)
		b.bytes = w.number(16)
		w.number(16)
		w.at += 8 * b.bytes
	case 1:
		w.letters(symbolsOf(fixedLetters()), symbolsOf(repeat(32, 5)))
	case 2:
		w.letters(w.ownCodes())
	default:
		w.t.Fatalf("in %.40x (%d bytes) is a block of no kind", w.data, len(w.data))
	}
	return b
}

// bitsOf is the bits of a symbol as a number, and how many they are.
type bitsOf struct {
	number, length int
}

func symbolsOf(lengths []int) map[bitsOf]int {
	symbols := map[bitsOf]int{}
	for symbol, number := range plainBits(lengths) {
		if lengths[symbol] > 0 {
			symbols[bitsOf{number, lengths[symbol]}] = symbol
		}
	}
	return symbols
}

func (w *blockWalker) symbol(code map[bitsOf]int) int {
	w.t.Helper()
	for b := (bitsOf{}); ; {
		b = bitsOf{b.number<<1 | w.number(1), b.length + 1}
		if symbol, ok := code[b]; ok {
			return symbol
		}
	}
}

func (w *blockWalker) ownCodes() (letters, steps map[bitsOf]int) {
	w.t.Helper()
	count := w.number(5) + 257
	all := count + w.number(5) + 1
	ofLengths := make([]int, 19)
	for _, s := range lengthsOrder()[:w.number(4)+4] {
		ofLengths[s] = w.number(3)
	}
	code := symbolsOf(ofLengths)
	var lengths []int
	for len(lengths) < all {
		switch s := w.symbol(code); s {
		case 16:
			lengths = append(lengths, repeat(w.number(2)+3, lengths[len(lengths)-1])...)
		case 17:
			lengths = append(lengths, repeat(w.number(3)+3, 0)...)
		case 18:
			lengths = append(lengths, repeat(w.number(7)+11, 0)...)
		default:
			lengths = append(lengths, s)
		}
	}
	return symbolsOf(lengths[:count]), symbolsOf(lengths[count:])
}

func (w *blockWalker) letters(letters, steps map[bitsOf]int) {
	w.t.Helper()
	for {
		letter := w.symbol(letters)
		if letter == 256 {
			return
		}
		if letter < 256 {
			continue
		}
		if letter >= 265 && letter < 285 {
			w.number((letter - 261) / 4)
		}
		if step := w.symbol(steps); step >= 4 {
			w.number(step/2 - 1)
		}
	}
}
