package bale_test

import (
	"bytes"
	"compress/zlib"
	"math/rand"
	"testing"

	"bale/api"
	"bale/bale"
)

func checkUnframe(t *testing.T, name, data string, most int, text string, err api.Errno) {
	t.Helper()
	if s, e := bale.Unframe(data, most); s != text || e != err {
		t.Errorf("P6: %s: Unframe(%.80x, %d) = %.60q, %d, want %.60q, %d", name, data, most, s, e, text, err)
	}
}

func TestP6Frames(t *testing.T) {
	checkUnframe(t, "the example", raw("78 9c 4b 04 00 00 62 00 62"), plenty, "a", api.OK)
	checkUnframe(t, "no text", raw("78 9c 03 00 00 00 00 01"), plenty, "", api.OK)
	checkUnframe(t, "a block as it is", raw("78 01 01 09 00 f6 ff")+"Wikipedia"+raw("11 e6 03 98"), plenty, "Wikipedia", api.OK)
	checkUnframe(t, "as much as may be", raw("78 9c 4b 04 00 00 62 00 62"), 1, "a", api.OK)
}

func TestP6AllFirstBytes(t *testing.T) {
	for both := range 65536 {
		first, second := both/256, both%256
		want := api.OK
		if first%16 != 8 || first/16 > 7 || second/32%2 != 0 || both%31 != 0 {
			want = api.ErrFrame
		}
		text := "a"
		if want != api.OK {
			text = ""
		}
		begin := string([]byte{byte(first), byte(second)})
		checkUnframe(t, "first bytes", begin+raw("4b 04 00 00 62 00 62"), plenty, text, want)
	}
}

func TestP6Wrong(t *testing.T) {
	begin, blocks, sum := raw("78 9c"), raw("4b 04 00"), raw("00 62 00 62")
	for _, c := range []struct {
		name, data string
		err        api.Errno
	}{
		{"no bytes", "", api.ErrEnd},
		{"one byte", begin[:1], api.ErrEnd},
		{"one byte, with which no frame begins", raw("79"), api.ErrEnd},
		{"two bytes", begin, api.ErrEnd},
		{"two bytes, with which no frame begins", raw("78 9d"), api.ErrFrame},
		{"no begin", raw("78 9d") + blocks + sum, api.ErrFrame},
		{"no begin, ahead of all else", raw("78 9d 07") + "behind", api.ErrFrame},
		{"the first byte and the second one the other way round", raw("9c 78") + blocks + sum, api.ErrFrame},
		{"blocks that end", begin + blocks[:1], api.ErrEnd},
		{"blocks that end, though they have told a text", begin + blocks[:2], api.ErrEnd},
		{"no kind of block", begin + raw("07") + sum, api.ErrBlock},
		{"two numbers that do not fit", begin + raw("01 01 00 00 00 61") + sum, api.ErrBlock},
		{"too many letters", begin + bits("1", ownNumbers(288, 1, 4)) + sum, api.ErrCode},
		{"no letter", begin + bits("1 10", letters("a"), letter(286)) + sum, api.ErrSymbol},
		{"a step beyond the beginning", begin + bits("1 10", letters("a"), letter(257), step(1), letter(256)) + sum, api.ErrFar},
		{"a step back into the begin", begin + bits("1 10", letter(257), step(0), letter(256)) + sum, api.ErrFar},
		{"no sum", begin + blocks, api.ErrEnd},
		{"three bytes of the sum", begin + blocks + sum[:3], api.ErrEnd},
		{"three bytes of another sum", begin + blocks + raw("99 99 99"), api.ErrEnd},
		{"another sum by its highest bit", begin + blocks + raw("80 62 00 62"), api.ErrSum},
		{"another sum by its lowest bit", begin + blocks + raw("00 62 00 63"), api.ErrSum},
		{"another sum in its second byte", begin + blocks + raw("00 63 00 62"), api.ErrSum},
		{"another sum in its third byte", begin + blocks + raw("00 62 01 62"), api.ErrSum},
		{"the sum with its lowest byte first", begin + blocks + raw("62 00 62 00"), api.ErrSum},
		{"the sum of no text", begin + blocks + raw("00 00 00 01"), api.ErrSum},
		{"another sum, and bytes left", begin + blocks + raw("00 62 00 63 00"), api.ErrSum},
		{"the sum a byte late", begin + blocks + raw("00") + sum, api.ErrSum},
		{"a byte left", begin + blocks + sum + "\x00", api.ErrFrame},
		{"another frame behind it", begin + blocks + sum + begin + blocks + sum, api.ErrFrame},
	} {
		checkUnframe(t, c.name, c.data, plenty, "", c.err)
	}
}

func TestP6Most(t *testing.T) {
	frame := raw("78 9c 4b 04 00 00 62 00 62")
	for _, most := range []int{0, -1, -1 << 63} {
		checkUnframe(t, "no room", frame, most, "", api.ErrBig)
		checkUnframe(t, "no room, no sum, bytes left", frame[:5]+"behind", most, "", api.ErrBig)
		checkUnframe(t, "no text", raw("78 9c 03 00 00 00 00 01"), most, "", api.OK)
		checkUnframe(t, "no begin", raw("78 9d")+frame[2:], most, "", api.ErrFrame)
	}
}

func TestP6WhatOthersFrame(t *testing.T) {
	r := rand.New(rand.NewSource(10))
	for i := range 120 {
		text := strawText(r, r.Intn(20000))
		var framed bytes.Buffer
		w, _ := zlib.NewWriterLevel(&framed, i%12-2)
		w.Write([]byte(text))
		w.Close()
		checkUnframe(t, "framed by others", framed.String(), len(text), text, api.OK)
		checkUnframe(t, "cut", framed.String()[:r.Intn(framed.Len())], len(text), "", api.ErrEnd)
		checkUnframe(t, "a byte left", framed.String()+"x", len(text), "", api.ErrFrame)
		if len(text) > 0 {
			checkUnframe(t, "no room for its last byte", framed.String(), len(text)-1, "", api.ErrBig)
		}
	}
}
