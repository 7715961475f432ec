package bale_test

import (
	"math"
	"math/rand"
	"strings"
	"sync"
	"testing"

	"bale/api"
	"bale/bale"
)

// wrong is bits that begin with a block; by the last of them, and not by the one ahead of it, it is clear what is wrong.
type wrong struct {
	name string
	row  string
	told string // the text of this block, up to there
	err  api.Errno
}

// checkWrong holds Inflate to the place of what is wrong: the data ends with the last bit of the row, or with the one ahead of it. The text may have so many bytes more than are told.
func checkWrong(t *testing.T, room int, list []wrong) {
	t.Helper()
	for _, w := range list {
		row := join(w.row)
		data, ahead := ending(row)
		most := len(ahead) + len(w.told) + room
		checkInflate(t, w.name, data, most, "", 0, w.err)
		checkInflate(t, w.name+", bytes behind it", data+"\x00\xff\x00", most, "", 0, w.err)
		data, ahead = ending(row[:len(row)-1])
		most = len(ahead) + len(w.told) + room
		checkInflate(t, w.name+", cut", data, most, ahead+w.told, 0, api.ErrEnd)
	}
}

func TestP5WrongBlocks(t *testing.T) {
	checkWrong(t, plenty, []wrong{
		{"kind 3", "0 11", "", api.ErrBlock},
		{"kind 3, the last", "1 11", "", api.ErrBlock},
		{"kind 3 behind a block", join("0 10", letters("hay"), letter(256), "1 11"), "hay", api.ErrBlock},
	})
	for _, c := range []struct {
		name, data, text string
		err              api.Errno
	}{
		{"no bytes", "", "", api.ErrEnd},
		{"no numbers", raw("01"), "", api.ErrEnd},
		{"half a number", raw("01 02"), "", api.ErrEnd},
		{"one number", raw("01 02 00"), "", api.ErrEnd},
		{"one number and a half, which does not fit", raw("01 02 00 00"), "", api.ErrEnd},
		{"numbers that do not fit, and no bytes", raw("01 02 00 00 00"), "", api.ErrBlock},
		{"two numbers that are the same", raw("01 02 00 02 00 61 62"), "", api.ErrBlock},
		{"a second number one too great", raw("01 02 00 fe ff 61 62"), "", api.ErrBlock},
		{"a second number with its bytes the other way round", raw("01 02 00 ff fd 61 62"), "", api.ErrBlock},
		{"a second number with another highest bit", raw("01 02 00 fd 7f 61 62"), "", api.ErrBlock},
		{"a second number with another lowest bit", raw("01 00 00 fe ff"), "", api.ErrBlock},
		{"numbers that do not fit, behind a block", raw("00 01 00 fe ff 61 01 01 00 fe fe 62"), "", api.ErrBlock},
		{"no bytes of two", raw("01 02 00 fd ff"), "", api.ErrEnd},
		{"one byte of two", raw("01 02 00 fd ff 61"), "a", api.ErrEnd},
		{"no block behind one that is not the last", raw("00 01 00 fe ff 61"), "a", api.ErrEnd},
		{"of the next block its first bits alone", raw("00 01 00 fe ff 61 00"), "a", api.ErrEnd},
		{"256 bytes cut", raw("01 00 01 ff fe") + mixed(255), mixed(255), api.ErrEnd},
	} {
		checkInflate(t, c.name, c.data, plenty, c.text, 0, c.err)
	}
}

func TestP5WrongNumbersOfCodes(t *testing.T) {
	checkWrong(t, plenty, []wrong{
		{"287 letters", "1" + ownNumbers(287, 1, 4), "", api.ErrCode},
		{"288 letters", "1" + ownNumbers(288, 30, 19), "", api.ErrCode},
		{"31 steps", "1" + ownNumbers(257, 31, 5), "", api.ErrCode},
		{"32 steps", "0" + ownNumbers(286, 32, 19), "", api.ErrCode},
		{"both", "0" + ownNumbers(288, 32, 10), "", api.ErrCode},
	})
	letters, steps := lengthsOf(286, 'a', 1, 256, 1), lengthsOf(30)
	checkText(t, "286 letters and 30 steps", bits("1", own(letters, steps), "0 1"), "a")
}

func TestP5WrongCodesOfLengths(t *testing.T) {
	of := func(lengths ...int) string {
		row := "1" + ownNumbers(257, 1, len(lengths))
		for _, length := range lengths {
			row += number(length, 3)
		}
		return row
	}
	checkWrong(t, plenty, []wrong{
		{"none", of(0, 0, 0, 0), "", api.ErrCode},
		{"none of 19", of(repeat(19, 0)...), "", api.ErrCode},
		{"one alone", of(0, 0, 1, 0), "", api.ErrCode},
		{"one alone, longer", of(0, 0, 0, 7), "", api.ErrCode},
		{"too light", of(1, 2, 0, 0, 3), "", api.ErrCode},
		{"too light by the least", of(1, 2, 3, 4, 5, 6, 7), "", api.ErrCode},
		{"too heavy", of(1, 1, 1, 0), "", api.ErrCode},
		{"too heavy by the least", of(1, 2, 3, 4, 5, 6, 7, 7, 7), "", api.ErrCode},
		{"too heavy from the first on, but told at the last", of(1, 1, 1, 1, 1, 0, 0, 0), "", api.ErrCode},
		{"all of them", of(repeat(19, 1)...), "", api.ErrCode},
	})
}

func TestP5WrongRuns(t *testing.T) {
	head := "1" + ownHead(257, 1)
	ahead := toldLengths(lengthsOf(255, 'a', 1)) // then there is room for three: two letters and the step
	two := toldLengths(lengthsOf(257, 'a', 1, 256, 1))
	four := toldLengths(lengthsOf(257, 'a', 2, 'b', 2, 'c', 2, 256, 2))
	checkWrong(t, plenty, []wrong{
		{"16 past the last by one, though so many would be a code", "1" + ownHead(257, 3) + four + told(16) + number(1, 2), "", api.ErrCode},
		{"17 past the last by one, though so many would be a code", "1" + ownHead(257, 2) + two + told(17) + number(0, 3), "", api.ErrCode},
		{"18 past the last by one, though so many would be a code", "1" + ownHead(257, 10) + two + told(18) + number(0, 7), "", api.ErrCode},
		{"16 with none ahead", head + told(16), "", api.ErrCode},
		{"16 past the last by one", head + ahead + told(1) + told(16) + number(0, 2), "", api.ErrCode},
		{"16 past the last by many", head + ahead + told(1) + told(1) + told(16) + number(3, 2), "", api.ErrCode},
		{"17 past the last", head + ahead + told(1) + told(17) + number(0, 3), "", api.ErrCode},
		{"17 past the last, by its bits", head + ahead + told(17) + number(1, 3), "", api.ErrCode},
		{"18 past the last", head + ahead + told(1) + told(1) + told(18) + number(0, 7), "", api.ErrCode},
		{"18 far past the last", head + zeros(138) + told(18) + number(127, 7), "", api.ErrCode},
		{"18 past the last letter and the last step", "1" + ownHead(286, 30) + zeros(138) + zeros(138) + told(18) + number(30, 7), "", api.ErrCode},
	})
}

func TestP5WrongCodes(t *testing.T) {
	// what is wrong with the letters is told when the steps' lengths are read too
	none := lengthsOf(1)
	two := lengthsOf(257, 'a', 1, 256, 1)
	heavy := lengthsOf(257)
	copy(heavy[240:], chain(15, 15))
	light := lengthsOf(257)
	copy(light[242:], chain())
	var list []wrong
	for _, c := range []struct {
		name           string
		letters, steps []int
	}{
		{"no letters", lengthsOf(257), none},
		{"no letters, some steps", lengthsOf(257), lengthsOf(2, 0, 1, 1, 1)},
		{"the end alone, of length 2", lengthsOf(257, 256, 2), none},
		{"the end alone, of length 15", lengthsOf(257, 256, 15), none},
		{"another letter alone", lengthsOf(257, 'a', 1), none},
		{"complete letters without the end", lengthsOf(257, 'a', 1, 'b', 1), none},
		{"complete letters without the end, some behind it", lengthsOf(259, 'a', 1, 258, 1), none},
		{"letters too light", lengthsOf(257, 'a', 1, 256, 2), none},
		{"two letters of the weight of one alone", lengthsOf(257, 'a', 2, 256, 2), none},
		{"letters too light by the least", light, none},
		{"letters too heavy", lengthsOf(257, 'a', 1, 'b', 1, 256, 1), none},
		{"letters too heavy by the least", heavy, none},
		{"letters and steps that would be complete together", lengthsOf(257, 256, 2), lengthsOf(3, 0, 2, 1, 2, 2, 2)},
		{"letters too light, 30 steps", lengthsOf(286, 'a', 1, 256, 2), lengthsOf(30, 29, 1)},
		{"one step alone, of length 2", two, lengthsOf(1, 0, 2)},
		{"another step alone, of length 15", two, lengthsOf(30, 7, 15)},
		{"steps too light", two, lengthsOf(4, 0, 1, 3, 2)},
		{"two steps of the weight of one alone", two, lengthsOf(4, 0, 2, 3, 2)},
		{"steps too heavy", two, lengthsOf(3, 0, 1, 1, 1, 2, 1)},
		{"both wrong", lengthsOf(257, 256, 2), lengthsOf(3, 0, 1, 1, 1, 2, 1)},
	} {
		list = append(list, wrong{c.name, "1" + own(c.letters, c.steps), "", api.ErrCode})
	}
	checkWrong(t, plenty, list)
}

func TestP5BitsOfNoSymbol(t *testing.T) {
	alone := "1" + own(lengthsOf(257, 256, 1), lengthsOf(1))
	again := lengthsOf(258, 'a', 1, 256, 2, 257, 2)
	noSteps := "0" + own(again, lengthsOf(3)) + in(again, 'a', 257)
	oneStep := "0" + own(again, lengthsOf(3, 0, 1)) + in(again, 'a', 257)
	ones := strings.Repeat("1", 14)
	noughts := strings.Repeat("0", 14)
	checkWrong(t, plenty, []wrong{
		{"no letter", alone + "1" + ones, "", api.ErrSymbol},
		{"no letter, behind a 1 the bits of the one there is", alone + "1" + noughts, "", api.ErrSymbol},
		{"no step of one, ones", oneStep + "1" + ones, "a", api.ErrSymbol},
		{"no step of one, noughts behind a 1", oneStep + "1" + noughts, "a", api.ErrSymbol},
		{"no step of none, ones", noSteps + "1" + ones, "a", api.ErrSymbol},
		{"no step of none, noughts", noSteps + "0" + noughts, "a", api.ErrSymbol},
	})
	for n := range 15 {
		for _, row := range []string{alone + "1"[:min(n, 1)] + ones[:max(n-1, 0)], oneStep + "1"[:min(n, 1)] + noughts[:max(n-1, 0)], noSteps + ones[:n]} {
			data, ahead := ending(row)
			s, used, err := bale.Inflate(data, plenty)
			if !strings.HasPrefix(s, ahead) || used != 0 || err != api.ErrEnd {
				t.Errorf("P5: of %d bits that no symbol has: %q, %d, %d", n, s, used, err)
			}
		}
	}
}

func TestP5NoLettersAndNoSteps(t *testing.T) {
	fixed := join("1 10", letters("ab"))
	checkWrong(t, plenty, []wrong{
		{"letter 286", fixed + letter(286), "ab", api.ErrSymbol},
		{"letter 287", fixed + letter(287), "ab", api.ErrSymbol},
		{"step 30", fixed + letter(257) + step(30), "ab", api.ErrSymbol},
		{"step 31", fixed + letter(285) + step(31), "ab", api.ErrSymbol},
		{"step 31, behind a letter with bits", fixed + letter(284) + number(31, 5) + step(31), "ab", api.ErrSymbol},
	})
	checkText(t, "letter 285 and step 29 among its own", bits("1", own(lengthsOf(286, 'a', 1, 256, 2, 285, 2), lengthsOf(30, 0, 1, 29, 1)), "0 11 0 10"), strings.Repeat("a", 259))
}

func TestP5StepsBeyondTheBeginning(t *testing.T) {
	ahead := join("1 10", letters("ab")) // at most 7 bytes are ahead of these
	checkWrong(t, plenty, []wrong{
		{"by its bits", ahead + letter(257) + step(7) + number(0, 2), "ab", api.ErrFar},
		{"a letter with bits", ahead + letter(284) + number(9, 5) + step(8) + number(7, 3), "ab", api.ErrFar},
		{"as far as may be", ahead + letter(257) + step(29) + number(8191, 13), "ab", api.ErrFar},
		{"told at the end of its bits, though it is too far by the least", ahead + letter(257) + step(29) + number(0, 13), "ab", api.ErrFar},
	})
	checkInflate(t, "by one", bits("1 10", letters("ab"), letter(257), step(2)), plenty, "", 0, api.ErrFar)
	checkWrong(t, 0, []wrong{{"ahead of too many bytes", ahead + letter(257) + step(7) + number(0, 2), "ab", api.ErrFar}})
}

func TestP5TooManyBytes(t *testing.T) {
	ahead := join("1 10", letters("ab"))
	far := letter(265) + number(1, 1) + step(1) // 12 bytes from 2 back
	checkWrong(t, 0, []wrong{
		{"a letter", ahead + letter('c'), "ab", api.ErrBig},
		{"a letter of 9 bits", ahead + letter(255), "ab", api.ErrBig},
		{"bytes again", ahead + letter(257) + step(0), "ab", api.ErrBig},
		{"bytes again, their step with bits", join("1 10", letters("abcdef")) + letter(284) + number(31, 5) + step(4) + number(1, 1), "abcdef", api.ErrBig},
		{"an own letter", "1" + own(lengthsOf(257, 'a', 1, 256, 1), lengthsOf(1)) + "0", "", api.ErrBig},
	})
	for room := range 12 {
		checkWrong(t, room, []wrong{{"bytes again, some of them fit", ahead + far, "ab", api.ErrBig}})
	}
	checkInflate(t, "bytes again that fit", bits(ahead, far, letter(256)), 14, "abababababababab"[:14], 5, api.OK)
	checkWrong(t, 0, []wrong{
		{"no letter, where there is no room", ahead + letter(286), "ab", api.ErrSymbol},
		{"no step, where there is no room", ahead + letter(257) + step(30), "ab", api.ErrSymbol},
		{"kind 3, where there is no room", join("0 10", letters("ab"), letter(256), "1 11"), "ab", api.ErrBlock},
	})
}

func TestP5TooManyBytesAsTheyAre(t *testing.T) {
	data := "\x00" + stored("ab") + "\x01" + stored("cde")
	for most := range 7 {
		for cut := range len(data) + 1 {
			there := min(max(cut-5, 0), 2) + min(max(cut-12, 0), 3)
			text, used, err := "abcde"[:there], 0, api.ErrEnd
			if there > most {
				text, err = "", api.ErrBig
			} else if cut == len(data) {
				used, err = cut, api.OK
			}
			checkInflate(t, "as it is, cut", data[:cut], most, text, used, err)
		}
	}
	checkInflate(t, "numbers that do not fit are ahead of too many bytes", raw("01 01 00 00 00 61"), 0, "", 0, api.ErrBlock)
}

func TestP5MostOfNoneAndBelow(t *testing.T) {
	for _, most := range []int{0, -1, -65536, math.MinInt} {
		checkInflate(t, "a byte", raw("4b 04 00"), most, "", 0, api.ErrBig)
		checkInflate(t, "a byte as it is", raw("01 01 00 fe ff 61"), most, "", 0, api.ErrBig)
		checkInflate(t, "a byte as it is that is not there", raw("01 01 00 fe ff"), most, "", 0, api.ErrEnd)
		checkInflate(t, "no text, fixed", raw("03 00"), most, "", 2, api.OK)
		checkInflate(t, "no text, as it is", raw("01 00 00 ff ff 61"), most, "", 5, api.OK)
		checkInflate(t, "no bytes", "", most, "", 0, api.ErrEnd)
		checkInflate(t, "kind 3", raw("07"), most, "", 0, api.ErrBlock)
		checkInflate(t, "from nowhere", bits("1 10", letter(257), step(0)), most, "", 0, api.ErrFar)
	}
	for _, most := range []int{1, 2, math.MaxInt} {
		checkInflate(t, "a byte", raw("4b 04 00"), most, "a", 3, api.OK)
	}
}

func TestP5TheTextAsFarAsItWasTold(t *testing.T) {
	again := lengthsOf(265, 'o', 1, 256, 2, 264, 2)
	units := []struct{ row, text string }{
		{"0 10", ""}, {letter('a'), "a"}, {letter(0xff), "\xff"}, {letter('b'), "b"}, {letter(258) + step(1), "\xffb\xffb"},
		{letter(266) + number(1, 1) + step(4) + number(0, 1), "b\xffb\xffbb\xffb\xffbb\xffb\xff"}, {letter(256), ""},
		{"0" + own(again, lengthsOf(1, 0, 1)), ""}, {in(again, 'o'), "o"}, {in(again, 264) + "0", "oooooooooo"}, {in(again, 256), ""},
		{"1 10", ""}, {letter('z'), "z"}, {letter(256), ""},
	}
	done, text := "", ""
	for _, u := range units {
		row := join(u.row)
		for n := range len(row) {
			data, ahead := ending(done + row[:n])
			checkInflate(t, "cut at each bit", data, plenty, ahead+text, 0, api.ErrEnd)
		}
		done += row
		text += u.text
	}
	data, ahead := ending(done)
	checkText(t, "not cut", data, ahead+text)
}

// inflated is what Inflate answers.
type inflated struct {
	text string
	used int
	err  api.Errno
}

func inflate(data string, most int) inflated {
	text, used, err := bale.Inflate(data, most)
	return inflated{text, used, err}
}

// anyData is bytes that begin so as to reach far into blocks of any kind.
func anyData(r *rand.Rand) string {
	data := anyBytes(r, r.Intn(60))
	switch r.Intn(4) {
	case 0:
		return data
	case 1:
		return bits("0 10", letters(data[:len(data)/4]), letter(256), number(r.Intn(256), 8)) + data
	case 2:
		return bits("1", ownHead(257+r.Intn(30), 1+r.Intn(30))) + data
	default:
		letters, steps := anyCode(r, 257+r.Intn(30), 15, 256), anyCode(r, 2+r.Intn(29), 15)
		return bits("1", own(letters, steps)) + data
	}
}

func TestP5TheFirstPlaceHolds(t *testing.T) {
	r := rand.New(rand.NewSource(8))
	seen := map[api.Errno]int{}
	for range 3000 {
		data, most := anyData(r), r.Intn(200)-5
		var before inflated
		for cut := range len(data) + 1 {
			this := inflate(data[:cut], most)
			switch {
			case cut > 0 && before.err != api.ErrEnd && this != before:
				t.Fatalf("P5: Inflate(%x, %d) is %v of %d bytes, but %v of one less", data, most, this, cut, before)
			case len(this.text) > max(most, 0) || !strings.HasPrefix(this.text, before.text) && this.err <= api.ErrEnd:
				t.Fatalf("P5: Inflate(%x, %d) is %v of %d bytes, behind %v", data, most, this, cut, before)
			case this.err == api.OK && (this.used < 1 || this.used > cut), this.err != api.OK && this.used != 0, this.err > api.ErrEnd && this.text != "":
				t.Fatalf("P5: Inflate(%x, %d) is %v of %d bytes", data, most, this, cut)
			case this.err < api.OK || this.err > api.ErrBig:
				t.Fatalf("P5: Inflate(%x, %d) tells the error %d", data, most, this.err)
			}
			before = this
		}
		seen[before.err]++
	}
	for err := api.OK; err <= api.ErrBig; err++ {
		if seen[err] == 0 {
			t.Errorf("P5: no data here has the error %d", err)
		}
	}
}

func TestP2InflateHangsOnItsArgumentsAlone(t *testing.T) {
	r := rand.New(rand.NewSource(9))
	var data []string
	var want []inflated
	for range 200 {
		data = append(data, anyData(r))
		want = append(want, inflate(data[len(data)-1], 100))
	}
	var wait sync.WaitGroup
	for range 8 {
		wait.Go(func() {
			for i := range data {
				if got := inflate(data[i], 100); got != want[i] {
					t.Errorf("P2: asked again, Inflate(%x, 100) is %v, not %v", data[i], got, want[i])
				}
			}
		})
	}
	wait.Wait()
}
