package bale_test

import (
	"bytes"
	"compress/flate"
	"math/rand"
	"slices"
	"strings"
	"testing"

	"bale/api"
	"bale/bale"
)

// plenty is more than any text here has.
const plenty = 1 << 20

func checkInflate(t *testing.T, name, data string, most int, text string, used int, err api.Errno) {
	t.Helper()
	if s, n, e := bale.Inflate(data, most); s != text || n != used || e != err {
		t.Errorf("P5: %s: Inflate(%.80x, %d) = %.60q (%d bytes), %d used, %d, want %.60q (%d bytes), %d, %d", name, data, most, s, len(s), n, e, text, len(text), used, err)
	}
}

// checkText holds Inflate to a text of blocks that use all of the data.
func checkText(t *testing.T, name, data, text string) {
	t.Helper()
	checkInflate(t, name, data, plenty, text, len(data), api.OK)
}

// stored is the two numbers and the bytes of a block as it is.
func stored(text string) string {
	n := len(text)
	return string([]byte{byte(n), byte(n >> 8), byte(^n), byte(^n >> 8)}) + text
}

// mixed is so many bytes that are as good as random.
func mixed(n int) string {
	return anyBytes(rand.New(rand.NewSource(int64(n))), n)
}

func anyBytes(r *rand.Rand, n int) string {
	text := make([]byte, n)
	for i := range text {
		text[i] = byte(r.Intn(256))
	}
	return string(text)
}

func TestP5Examples(t *testing.T) {
	checkInflate(t, "fixed", raw("4b 04 00"), plenty, "a", 3, api.OK)
	checkInflate(t, "as it is", raw("01 02 00 fd ff 61 62 63"), plenty, "ab", 7, api.OK)
	checkInflate(t, "cut", raw("4b 04"), plenty, "a", 0, api.ErrEnd)
	checkInflate(t, "kind 3", raw("07"), plenty, "", 0, api.ErrBlock)
}

func TestP5BlocksAsTheyAre(t *testing.T) {
	for _, text := range []string{"", "a", "\x00", "\xff\x00\xff", mixed(255), mixed(256), mixed(65534), mixed(65535)} {
		checkText(t, "the last", "\x01"+stored(text), text)
		checkText(t, "with another ahead", "\x00"+stored(text)+"\x01"+stored("z"), text+"z")
	}
}

func TestP5TheRestOfAByteIsPassed(t *testing.T) {
	for rest := range 32 {
		checkText(t, "five bits", bits("1 00", number(rest, 5))+stored("hay"), "hay")
		checkText(t, "none of the numbers are passed bits", bits("0 00", number(31-rest, 5))+stored("")+bits("1 00", number(rest, 5))+stored("hay"), "hay")
	}
	for n := range 8 {
		ahead := strings.Repeat("\xff", n)
		row := join("0 10", letters(ahead), letter(256), "1 00")
		for _, rest := range []string{"0000000", "1111111", "0110101"} {
			row := row + rest[:(8-len(row)%8)%8] // of a byte that has ended nothing is passed
			checkText(t, "behind a fixed block", bits(row)+stored("hay"), ahead+"hay")
		}
	}
}

func TestP5FixedBlocks(t *testing.T) {
	all := make([]byte, 256)
	for i := range all {
		all[i] = byte(i)
		checkText(t, "one letter", bits("1 10", letter(i), letter(256)), string(all[i:i+1]))
	}
	checkText(t, "no letter", bits("1 10", letter(256)), "")
	checkText(t, "all letters", bits("1 10", letters(string(all)), letter(256)), string(all))
	checkText(t, "known bits", bits("1 10 110010000 111111111 00110000 10111111 0000000"), "\x90\xff\x00\x8f")
	checkText(t, "bytes again that have just come", bits("1 10", letters("ab"), letter(259), step(1), letter(256)), "abababa")
}

func TestP5HowManyBytesAgain(t *testing.T) {
	least := []int{3, 4, 5, 6, 7, 8, 9, 10, 11, 13, 15, 17, 19, 23, 27, 31, 35, 43, 51, 59, 67, 83, 99, 115, 131, 163, 195, 227, 258}
	widths := []int{0, 0, 0, 0, 0, 0, 0, 0, 1, 1, 1, 1, 2, 2, 2, 2, 3, 3, 3, 3, 4, 4, 4, 4, 5, 5, 5, 5, 0}
	for i, width := range widths {
		for more := range 1 << width {
			data := bits("1 10", letters("ab"), letter(257+i), number(more, width), step(1), letters("z"), letter(256))
			text := strings.Repeat("ab", 200)[:2+least[i]+more] + "z"
			checkText(t, "bytes again", data, text)
		}
	}
}

func TestP5HowFarBack(t *testing.T) {
	least := []int{1, 2, 3, 4, 5, 7, 9, 13, 17, 25, 33, 49, 65, 97, 129, 193, 257, 385, 513, 769, 1025, 1537, 2049, 3073, 4097, 6145, 8193, 12289, 16385, 24577}
	widths := []int{0, 0, 0, 0, 1, 1, 2, 2, 3, 3, 4, 4, 5, 5, 6, 6, 7, 7, 8, 8, 9, 9, 10, 10, 11, 11, 12, 12, 13, 13}
	ahead := mixed(32768 + 3)
	for i, width := range widths {
		for _, more := range []int{0, 1<<width - 1, (1<<width - 1) / 3} {
			back := least[i] + more
			data := "\x00" + stored(ahead) + bits("1 10", letter(257), step(i), number(more, width), letters("z"), letter(256))
			again := strings.Repeat(ahead[len(ahead)-back:], 3)[:3]
			checkText(t, "a step", data, ahead+again+"z")
		}
	}
}

func TestP5BackAcrossBlocksToTheBeginning(t *testing.T) {
	for _, c := range []struct {
		text           string
		first, further string // the step to the beginning of the text, and to one byte ahead of it
	}{
		{"a", step(0), step(1)},
		{"ab", step(1), step(2)},
		{"abcd", step(3), step(4) + number(0, 1)},
		{"abcde", step(4) + number(0, 1), step(4) + number(1, 1)},
		{mixed(32767), step(29) + number(8190, 13), step(29) + number(8191, 13)},
	} {
		ahead := "\x00" + stored(c.text)
		checkText(t, "from the beginning", ahead+bits("1 10", letter(257), c.first, letter(256)), c.text+strings.Repeat(c.text, 3)[:3])
		checkInflate(t, "from beyond it", ahead+bits("1 10", letter(257), c.further, letter(256)), plenty, "", 0, api.ErrFar)
	}
	checkInflate(t, "of no text", bits("1 10", letter(257), step(0), letter(256)), plenty, "", 0, api.ErrFar)
}

// in is symbols of the code with these lengths.
func in(lengths []int, symbols ...int) string {
	row := ""
	for _, s := range symbols {
		row += symbol(lengths, s)
	}
	return row
}

func TestP5OwnCodes(t *testing.T) {
	check := func(name string, letters, steps []int, row, text string) {
		t.Helper()
		checkText(t, name, bits("1", own(letters, steps), row, in(letters, 256)), text)
	}
	none := lengthsOf(1)
	two := lengthsOf(257, 'a', 2, 'b', 2, 256, 1)
	check("two bytes, no steps", two, none, in(two, 'a', 'b', 'b'), "abb")
	check("the end alone", lengthsOf(257, 256, 1), none, "", "")

	long := lengthsOf(286)
	copy(long[250:], chain(15))
	check("the longest bits", long, none, in(long, 250, 255, 254, 253, 250), "\xfa\xff\xfe\xfd\xfa")

	again := lengthsOf(286, 'x', 2, 'y', 3, 256, 3, 257, 2, 264, 3, 285, 3)
	check("one step alone", again, lengthsOf(1, 0, 1), in(again, 'x', 264)+"0"+in(again, 'y', 257)+"0", strings.Repeat("x", 11)+"yyyy")
	check("another step alone", again, lengthsOf(30, 1, 1), in(again, 'x', 'y', 257)+"0", "xyxyx")

	steps := lengthsOf(30, 0, 1, 1, 2, 4, 3, 29, 3)
	check("steps with bits", again, steps, in(again, 'x', 'y', 'y', 'x', 'y', 'y', 257)+in(steps, 4)+"1", "xyyxyyxyy")

	steep := lengthsOf(30)
	copy(steep, chain(15))
	check("steps with the longest bits", again, steep, in(again, 'x', 285)+in(steep, 0)+in(again, 257)+in(steep, 15)+number(0, 6), strings.Repeat("x", 262))
}

// run is a symbol of the code of lengths, and how many times it says its length.
type run struct{ symbol, times int }

// tell is the bits of some runs, and the lengths that they tell.
func tell(runs ...run) (row string, lengths []int) {
	for _, r := range runs {
		row += told(r.symbol)
		switch r.symbol {
		case 16:
			row += number(r.times-3, 2)
			lengths = append(lengths, repeat(r.times, lengths[len(lengths)-1])...)
		case 17:
			row += number(r.times-3, 3)
			lengths = append(lengths, repeat(r.times, 0)...)
		case 18:
			row += number(r.times-11, 7)
			lengths = append(lengths, repeat(r.times, 0)...)
		default:
			lengths = append(lengths, r.symbol)
		}
	}
	return row, lengths
}

// sample is a text in which all bytes of these letters come, and then some again by each of the steps 0 to 3 that are among these, if there is a letter 257; and its bits.
func sample(letters, steps []int) (row, text string) {
	for b := range 256 {
		if letters[b] > 0 {
			row += symbol(letters, b)
			text += string([]byte{byte(b)})
		}
	}
	for s := range min(len(steps), 4) {
		if steps[s] > 0 && len(letters) > 257 && letters[257] > 0 && len(text) > s {
			row += symbol(letters, 257) + symbol(steps, s)
			text += strings.Repeat(text[len(text)-s-1:], 3)[:3]
		}
	}
	return row + symbol(letters, 256), text
}

func TestP5LengthsToldAtOnce(t *testing.T) {
	for _, c := range []struct {
		name    string
		letters int
		runs    []run
	}{
		{"16 with each number", 257, []run{{5, 1}, {16, 3}, {16, 4}, {16, 5}, {16, 6}, {5, 1}, {16, 6}, {18, 138}, {18, 87}, {5, 1}, {16, 5}, {0, 1}}},
		{"17 with each number", 258, []run{{17, 3}, {3, 1}, {17, 4}, {3, 1}, {17, 5}, {3, 1}, {17, 6}, {3, 1}, {17, 7}, {3, 1}, {17, 8}, {3, 1}, {17, 9}, {17, 10}, {18, 138}, {18, 60}, {3, 1}, {3, 1}, {1, 1}, {1, 1}}},
		{"18 with some numbers, the least and the most too", 258, []run{{18, 11}, {3, 1}, {18, 12}, {3, 1}, {18, 138}, {3, 1}, {16, 3}, {18, 89}, {3, 1}, {3, 1}, {1, 1}, {1, 1}}},
		{"16 behind zeros", 257, []run{{0, 1}, {16, 6}, {17, 4}, {16, 3}, {2, 1}, {18, 11}, {16, 4}, {2, 1}, {18, 138}, {18, 86}, {2, 1}, {2, 1}, {0, 1}}},
		{"from letters into steps", 258, []run{{18, 97}, {2, 1}, {2, 1}, {18, 138}, {18, 19}, {2, 1}, {16, 5}}},
		{"zeros from letters into steps", 286, []run{{18, 97}, {2, 1}, {2, 1}, {18, 138}, {18, 19}, {2, 1}, {2, 1}, {18, 30}, {1, 1}, {1, 1}}},
		{"zeros up to the last step", 257, []run{{18, 97}, {2, 1}, {2, 1}, {18, 138}, {18, 19}, {1, 1}, {18, 30}}},
	} {
		row, lengths := tell(c.runs...)
		letters, steps := lengths[:c.letters], lengths[c.letters:]
		behind, text := sample(letters, steps)
		checkText(t, c.name, bits("1", ownHead(len(letters), len(steps)), row, behind), text)
	}
}

// anyCode is the lengths of a complete code of n symbols, those of some of them above 0, those of must among them.
func anyCode(r *rand.Rand, n int, most int, must ...int) []int {
	counts := make([]int, n)
	for range 2 + r.Intn(n) {
		counts[r.Intn(n)] = 1 + r.Intn(1<<r.Intn(20))
	}
	for _, s := range append(must, 0, n-1) {
		counts[s]++
	}
	lengths, _ := bale.Lengths(counts, most)
	return lengths
}

func TestP5OwnCodesOfAnyLengths(t *testing.T) {
	r := rand.New(rand.NewSource(5))
	for range 300 {
		letters := anyCode(r, 257+r.Intn(30), 15, 256)
		steps := anyCode(r, 2+r.Intn(29), 15)
		both := slices.Concat(letters, steps)
		code := anyCode(r, 19, 7, both...)
		row := ""
		for _, length := range both {
			row += symbol(code, length)
		}
		behind, text := sample(letters, steps)
		checkText(t, "any codes", bits("1", codeOfLengths(code, len(letters), len(steps)), row, behind), text)
	}
}

func TestP5BlocksBehindOneAnother(t *testing.T) {
	two := lengthsOf(258, 'o', 2, 'p', 2, 256, 2, 257, 2)
	one := lengthsOf(2, 1, 1)
	ownBlock := own(two, one) + in(two, 'o', 'p', 257) + "0" + in(two, 256)
	fixedBlock := join("10", letters("fix"), letter(257), step(2), letter(256))
	blocks := []struct{ row, text string }{{ownBlock, "opopo"}, {fixedBlock, "fixfix"}, {"", "as it is"}}
	r := rand.New(rand.NewSource(6))
	for range 200 {
		row, text := "", ""
		n := 1 + r.Intn(6)
		for i := range n {
			b := blocks[r.Intn(len(blocks))]
			row += number((i+1)/n, 1)
			if b.row == "" {
				row += "00"
				row += number(r.Intn(128), (8-len(row)%8)%8)
				for _, b := range []byte(stored(b.text)) {
					row += number(int(b), 8)
				}
			}
			row += b.row
			text += b.text
		}
		data := bits(row)
		checkText(t, "blocks", data, text)
		for cut := range len(data) {
			s, used, err := bale.Inflate(data[:cut], plenty)
			if err != api.ErrEnd || used != 0 || !strings.HasPrefix(text, s) {
				t.Fatalf("P5: blocks, cut at %d of %d: %q, %d, %d", cut, len(data), s, used, err)
			}
		}
	}
}

func TestP5BytesBehindAreNotUsed(t *testing.T) {
	for _, behind := range []string{"", "\x00", "\xff", "\x07\x07", "behind", raw("4b 04 00")} {
		for _, c := range []struct{ name, data, text string }{
			{"as it is", "\x01" + stored("ab"), "ab"},
			{"as it is, of no bytes", "\x01" + stored(""), ""},
			{"fixed, the last byte in part", raw("4b 04 00"), "a"},
			{"fixed, its other bits 1", filled("1 10", letters("a"), letter(256)), "a"},
			{"own, its other bits 1", filled("1", own(lengthsOf(257, 'a', 1, 256, 1), lengthsOf(1)), "0 0 1"), "aa"},
		} {
			checkInflate(t, c.name, c.data+behind, plenty, c.text, len(c.data), api.OK)
		}
		whole, ahead := ending("1 10" + letter(256))
		checkInflate(t, "fixed, the last byte whole", whole+behind, plenty, ahead, len(whole), api.OK)
	}
}

func TestP5WhatOthersPack(t *testing.T) {
	r := rand.New(rand.NewSource(7))
	for i := range 300 {
		text := strawText(r, r.Intn(20000))
		var packed bytes.Buffer
		w, _ := flate.NewWriter(&packed, i%12-2)
		for rest := text; len(rest) > 0; {
			n := 1 + r.Intn(len(rest))
			w.Write([]byte(rest[:n]))
			rest = rest[n:]
			if r.Intn(3) == 0 {
				w.Flush()
			}
		}
		w.Close()
		checkInflate(t, "packed by others", packed.String()+"behind", len(text), text, packed.Len(), api.OK)
	}
}

// strawText is a text in which much comes again, from near and from far, and of which some is as good as random.
func strawText(r *rand.Rand, n int) string {
	text := make([]byte, 0, n)
	for len(text) < n {
		switch from := len(text) - 1 - r.Intn(1<<r.Intn(15)); {
		case from < 0 || r.Intn(4) == 0:
			text = append(text, anyBytes(r, r.Intn(30))...)
		default:
			for range r.Intn(300) {
				text = append(text, text[from])
				from++
			}
		}
		text = append(text, "straw and hay "[r.Intn(14):]...)
	}
	return string(text[:n])
}
