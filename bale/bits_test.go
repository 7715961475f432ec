package bale_test

import (
	"encoding/hex"
	"slices"
	"strings"
)

// Rows of bits are texts of 0 and 1, in the order in which they come; spaces in them mean nothing.

// raw is bytes, told by hexadecimal digits.
func raw(digits string) string {
	data, err := hex.DecodeString(strings.ReplaceAll(digits, " ", ""))
	if err != nil {
		panic(err)
	}
	return string(data)
}

func join(rows ...string) string {
	return strings.ReplaceAll(strings.Join(rows, ""), " ", "")
}

// bits is the bytes of some rows; what is left of the last byte is 0.
func bits(rows ...string) string {
	row := join(rows...)
	data := make([]byte, (len(row)+7)/8)
	for i, bit := range []byte(row) {
		data[i/8] |= (bit - '0') << (i % 8)
	}
	return string(data)
}

// filled is the same, but what is left of the last byte is 1.
func filled(rows ...string) string {
	row := join(rows...)
	return bits(row, strings.Repeat("1", (8-len(row)%8)%8))
}

// number is a number of so many bits, the lowest first.
func number(value, bits int) string {
	row := ""
	for i := range bits {
		row += string('0' + byte(value>>i&1))
	}
	return row
}

// symbol is the bits of a symbol of the code with these lengths, the highest first.
func symbol(lengths []int, symbol int) string {
	row := []byte(number(plainBits(lengths)[symbol], lengths[symbol]))
	slices.Reverse(row)
	return string(row)
}

// letter is a letter of a fixed block.
func letter(l int) string {
	return symbol(fixedLetters(), l)
}

func fixedLetters() []int {
	return slices.Concat(repeat(144, 8), repeat(112, 9), repeat(24, 7), repeat(8, 8))
}

// step is a step of a fixed block.
func step(s int) string {
	return symbol(repeat(32, 5), s)
}

// letters is all bytes of a text, as letters of a fixed block.
func letters(text string) string {
	row := ""
	for _, b := range []byte(text) {
		row += letter(int(b))
	}
	return row
}

// ownLengths is a code of lengths that has all of them.
func ownLengths() []int {
	return slices.Concat(repeat(13, 4), repeat(6, 5))
}

// told is a symbol of that code.
func told(s int) string {
	return symbol(ownLengths(), s)
}

// zeros tells so many lengths of 0.
func zeros(n int) string {
	row := ""
	for ; n >= 11; n -= min(n, 138) {
		row += told(18) + number(min(n, 138)-11, 7)
	}
	return row + strings.Repeat(told(0), n)
}

// toldLengths tells lengths, those above 0 one by one.
func toldLengths(lengths []int) string {
	row, none := "", 0
	for _, length := range lengths {
		if length == 0 {
			none++
			continue
		}
		row += zeros(none) + told(length)
		none = 0
	}
	return row + zeros(none)
}

// codeOfLengths is how a block with its own codes begins, up to the lengths of its so many letters and steps, if they are told by the code with these lengths.
func codeOfLengths(code []int, letters, steps int) string {
	row, n := "", 0
	for i, s := range lengthsOrder() {
		row += number(code[s], 3)
		if i < 4 || code[s] > 0 {
			n = i + 1
		}
	}
	return ownNumbers(letters, steps, n) + row[:3*n]
}

// lengthsOrder is how the lengths of the code of lengths come.
func lengthsOrder() []int {
	return []int{16, 17, 18, 0, 8, 7, 9, 6, 10, 5, 11, 4, 12, 3, 13, 2, 14, 1, 15}
}

// ownNumbers is the kind and the three numbers of such a block.
func ownNumbers(letters, steps, lengths int) string {
	return "01" + number(letters-257, 5) + number(steps-1, 5) + number(lengths-4, 4)
}

// ownHead is the same with the code of lengths that has all of them.
func ownHead(letters, steps int) string {
	return codeOfLengths(ownLengths(), letters, steps)
}

// own is the head and the codes of a block with these lengths.
func own(letters, steps []int) string {
	return ownHead(len(letters), len(steps)) + toldLengths(slices.Concat(letters, steps))
}

// lengthsOf is a list of so many lengths: those of the symbols that are named in pairs, and 0.
func lengthsOf(n int, symbolsAndLengths ...int) []int {
	lengths := make([]int, n)
	for i := 0; i < len(symbolsAndLengths); i += 2 {
		lengths[symbolsAndLengths[i]] = symbolsAndLengths[i+1]
	}
	return lengths
}

// ending is data that ends with the last of these bits, in which blocks begin; ahead of them is a fixed block with as many letters of 9 bits as that needs, and its text.
func ending(row string) (data, ahead string) {
	for n := range 8 {
		ahead = strings.Repeat("\xff", n)
		all := join("0 10", letters(ahead), letter(256), row)
		if len(all)%8 == 0 {
			return bits(all), ahead
		}
	}
	panic("no number of letters will do")
}
