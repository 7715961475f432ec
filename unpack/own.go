package unpack

import (
	"bale/api"
	"bale/codes"
	"bale/format"
)

// ownCodes reads the codes of a block that brings its own.
func (r *Reader) ownCodes() *blockCodes {
	letters := format.LeastLetters + r.bits.number(5)
	steps := format.LeastSteps + r.bits.number(5)
	told := format.LeastLengths + r.bits.number(4)
	if letters > format.MostLetters || steps > format.MostSteps {
		giveUp(api.ErrCode)
	}
	lengths := r.lengths(r.codeOfLengths(told), letters+steps)
	c := &blockCodes{codes.New(lengths[:letters]), codes.New(lengths[letters:])}
	if lengths[format.End] == 0 || !mayBeLetters(c.letters) || !mayBeSteps(c.steps) {
		giveUp(api.ErrCode)
	}
	return c
}

func mayBeLetters(code *codes.Code) bool {
	return code.IsComplete() || code.IsAlone()
}

func mayBeSteps(code *codes.Code) bool {
	return code.IsComplete() || code.IsAlone() || code.IsEmpty()
}

func (r *Reader) codeOfLengths(told int) *codes.Code {
	lengths := make([]int, format.Lengths)
	for place := range told {
		lengths[format.Ordered(place)] = r.bits.number(3)
	}
	code := codes.New(lengths)
	if !code.IsComplete() {
		giveUp(api.ErrCode)
	}
	return code
}

// lengths reads so many lengths: those of the letters and of the steps are one row, since what is told at once may be of both.
func (r *Reader) lengths(by *codes.Code, count int) []int {
	lengths := make([]int, 0, count)
	for len(lengths) < count {
		symbol := r.bits.symbol(by)
		length := lengthToldBy(symbol, lengths)
		times := r.bits.within(format.Times(symbol))
		if times > count-len(lengths) {
			giveUp(api.ErrCode)
		}
		for range times {
			lengths = append(lengths, length)
		}
	}
	return lengths
}

func lengthToldBy(symbol int, ahead []int) int {
	if symbol < format.Before {
		return symbol
	}
	if symbol > format.Before {
		return 0
	}
	if len(ahead) == 0 {
		giveUp(api.ErrCode)
	}
	return ahead[len(ahead)-1]
}
