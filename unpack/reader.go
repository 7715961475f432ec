// Package unpack reads blocks, and keeps the text that they tell.
package unpack

import (
	"bale/api"
	"bale/codes"
	"bale/format"
)

// Reader reads the blocks of some data. Where something is wrong it gives up by a panic with a GaveUp; the text as far as it was told is there all the same.
type Reader struct {
	bits  bitReader
	text  []byte
	most  int
	fixed *blockCodes // nil until a fixed block comes; then all of them share it
}

// blockCodes are the codes of a block.
type blockCodes struct {
	letters, steps *codes.Code
}

// New makes a reader of a text of at most so many bytes.
func New(data string, most int) *Reader {
	return &Reader{bits: bitReader{data: data}, most: max(most, 0)}
}

// Text tells the text so far.
func (r *Reader) Text() string {
	return string(r.text)
}

// Used tells how many bytes of the data were read, one that was begun too.
func (r *Reader) Used() int {
	if r.bits.bit > 0 {
		return r.bits.at + 1
	}
	return r.bits.at
}

// Blocks reads all blocks.
func (r *Reader) Blocks() {
	for last := false; !last; {
		last = r.bits.number(1) == 1
		r.block(r.bits.number(2))
	}
}

func (r *Reader) block(kind int) {
	switch kind {
	case format.AsItIs:
		r.asItIs()
	case format.Fixed:
		r.letters(r.fixedCodes())
	case format.Own:
		r.letters(r.ownCodes())
	default:
		giveUp(api.ErrBlock)
	}
}

func (r *Reader) asItIs() {
	r.bits.endByte()
	count := r.bits.number(16)
	if r.bits.number(16) != 65535-count {
		giveUp(api.ErrBlock)
	}
	for range count {
		r.add(r.bits.nextByte())
	}
}

func (r *Reader) fixedCodes() *blockCodes {
	if r.fixed == nil {
		r.fixed = &blockCodes{codes.New(format.FixedLetters()), codes.New(format.FixedSteps())}
	}
	return r.fixed
}

// letters reads what is behind the codes of a block.
func (r *Reader) letters(c *blockCodes) {
	for {
		letter := r.bits.symbol(c.letters)
		switch {
		case letter < format.End:
			r.add(byte(letter))
		case letter == format.End:
			return
		case letter < format.MostLetters:
			r.again(r.bits.within(format.Again(letter)), c.steps)
		default:
			giveUp(api.ErrSymbol)
		}
	}
}

// again reads a step, and adds so many bytes from there.
func (r *Reader) again(count int, steps *codes.Code) {
	step := r.bits.symbol(steps)
	if step >= format.MostSteps {
		giveUp(api.ErrSymbol)
	}
	back := r.bits.within(format.Back(step))
	if back > len(r.text) {
		giveUp(api.ErrFar)
	}
	for range count { // one by one, since those that are added here may be taken too
		r.add(r.text[len(r.text)-back])
	}
}

func (r *Reader) add(b byte) {
	if len(r.text) == r.most {
		giveUp(api.ErrBig)
	}
	r.text = append(r.text, b)
}
