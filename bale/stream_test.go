package bale_test

import (
	"compress/flate"
	"io"
	"math/rand"
	"slices"
	"strconv"
	"strings"
	"testing"

	"bale/api"
	"bale/bale"
)

// emptied is what a Flush brings where a byte has just ended and nothing was written since.
const emptied = "\x00\x00\x00\xff\xff"

// eachLevel checks something at each level, at all of them at once.
func eachLevel(t *testing.T, check func(t *testing.T, level int, r *rand.Rand)) {
	for level := range levels {
		t.Run("level "+strconv.Itoa(level), func(t *testing.T) {
			t.Parallel()
			check(t, level, rand.New(rand.NewSource(int64(level))))
		})
	}
}

// newStream is an open stream.
func newStream(t *testing.T, level int) *bale.Stream {
	t.Helper()
	s, err := bale.New(level)
	if s == nil || err != api.OK {
		t.Fatalf("P8: New(%d) = %v, %d", level, s, err)
	}
	return s
}

// use is a stream that is held, wherever it is flushed and closed, to all that is said of it.
type use struct {
	t              *testing.T
	stream         *bale.Stream
	level          int
	written, taken string
	flushes        int
	flushed        int // how much was taken by the last Flush
	alone          []place
}

// place is where what comes behind tells by itself what is written from then on.
type place struct {
	taken, written int
}

func newUse(t *testing.T, level int) *use {
	t.Helper()
	return &use{t: t, stream: newStream(t, level), level: level, alone: []place{{}}}
}

func (u *use) must(call string, err api.Errno) {
	u.t.Helper()
	if err != api.OK {
		u.t.Fatalf("P8: %s at level %d, behind %d bytes, answers %d", call, u.level, len(u.written), err)
	}
}

func (u *use) write(texts ...string) {
	u.t.Helper()
	for _, text := range texts {
		u.must("Write", u.stream.Write(text))
		u.written += text
	}
}

func (u *use) take() {
	u.taken += u.stream.Take()
}

func (u *use) flush(full bool) {
	u.t.Helper()
	u.must("Flush", u.stream.Flush(full))
	u.take()
	u.flushes++
	u.checkEmptyBlock()
	u.flushed = len(u.taken)
	u.checkTold(api.ErrEnd)
	u.checkSize(u.flushes)
	if full {
		u.alone = append(u.alone, place{len(u.taken), len(u.written)})
	}
}

// checkEmptyBlock holds the bytes since the last Flush to one block as it is of no bytes, the last of them.
func (u *use) checkEmptyBlock() {
	u.t.Helper()
	blocks := blocksOf(u.t, u.taken[u.flushed:])
	for i, b := range blocks {
		if b.last {
			u.t.Fatalf("P8: ahead of a Flush at level %d is the last block: %v", u.level, blocks)
		}
		if empty := b.kind == 0 && b.bytes == 0; empty != (i == len(blocks)-1) || empty && b.passed != 0 {
			u.t.Fatalf("P8: the blocks of a Flush at level %d are %v", u.level, blocks)
		}
	}
	if len(blocks) == 0 {
		u.t.Fatalf("P8: a Flush at level %d brings no block", u.level)
	}
}

// checkTold holds what was taken, all of it and what is behind each full Flush, to what was written.
func (u *use) checkTold(want api.Errno) {
	u.t.Helper()
	for _, from := range u.alone {
		data, text := u.taken[from.taken:], u.written[from.written:]
		all := 0
		if want == api.OK {
			all = len(data)
		}
		if got, used, err := bale.Inflate(data, len(text)); got != text || used != all || err != want {
			u.t.Fatalf("P9: at level %d, behind %d flushes, from byte %d on: Inflate tells %.60q (%d bytes), %d used, %d, want %.60q (%d bytes), %d, %d", u.level, u.flushes, from.taken, got, len(got), used, err, text, len(text), all, want)
		}
	}
}

// checkSize holds what was taken to its bound, with so many flushes, Close among them.
func (u *use) checkSize(flushes int) {
	u.t.Helper()
	n := len(u.written)
	if most := n + 5*((n+65534)/65535) + 10*flushes; len(u.taken) > most {
		u.t.Fatalf("P9: at level %d, of %d bytes with %d flushes: %d bytes, at most %d may come", u.level, n, flushes, len(u.taken), most)
	}
}

func (u *use) close() {
	u.t.Helper()
	u.must("Close", u.stream.Close())
	u.take()
	u.checkTold(api.OK)
	u.checkSize(u.flushes + 1)
	blocks := blocksOf(u.t, u.taken[u.flushed:])
	if i := slices.IndexFunc(blocks, func(b block) bool { return b.last }); i != len(blocks)-1 {
		u.t.Fatalf("P8: the blocks of a Close at level %d are %v", u.level, blocks)
	}
	if got, err := io.ReadAll(flate.NewReader(strings.NewReader(u.taken))); string(got) != u.written || err != nil {
		u.t.Fatalf("P9: at level %d others read %.60q (%d bytes), %v", u.level, got, len(got), err)
	}
	u.checkClosed()
}

func (u *use) checkClosed() {
	u.t.Helper()
	for name, call := range callsOnStream() {
		if err := call(u.stream); err != api.ErrClosed {
			u.t.Fatalf("P8: %s behind Close at level %d answers %d", name, u.level, err)
		}
		if b := u.stream.Take(); b != "" {
			u.t.Fatalf("P8: behind %s, behind Close at level %d, %x is taken", name, u.level, b)
		}
	}
}

// callsOnStream is all calls that a closed stream must refuse.
func callsOnStream() map[string]func(s *bale.Stream) api.Errno {
	return map[string]func(s *bale.Stream) api.Errno{
		"Write of a text":  func(s *bale.Stream) api.Errno { return s.Write("straw") },
		"Write of much":    func(s *bale.Stream) api.Errno { return s.Write(strings.Repeat("straw ", 20000)) },
		"Write of nothing": func(s *bale.Stream) api.Errno { return s.Write("") },
		"Flush":            func(s *bale.Stream) api.Errno { return s.Flush(false) },
		"full Flush":       func(s *bale.Stream) api.Errno { return s.Flush(true) },
		"Close":            func(s *bale.Stream) api.Errno { return s.Close() },
	}
}

func TestP8NoLevels(t *testing.T) {
	for _, level := range []int{-1, -2, -9, 10, 11, 99, 256, 1 << 32, 1<<63 - 1, -1 << 63, -1 << 32} {
		if s, err := bale.New(level); s != nil || err != api.ErrNumber {
			t.Errorf("P8: New(%d) = %v, %d", level, s, err)
		}
	}
}

func TestP8Example(t *testing.T) {
	eachLevel(t, func(t *testing.T, level int, _ *rand.Rand) {
		s := newStream(t, level)
		if w, f := s.Write("ab"), s.Flush(false); w != api.OK || f != api.OK {
			t.Errorf("P8: at level %d Write answers %d, Flush %d", level, w, f)
		}
		data := s.Take()
		if !strings.HasSuffix(data, raw("00 00 ff ff")) {
			t.Errorf("P8: at level %d %x is taken", level, data)
		}
		checkInflate(t, "the example", data, plenty, "ab", 0, api.ErrEnd)
	})
}

func TestP8NothingWritten(t *testing.T) {
	eachLevel(t, func(t *testing.T, level int, _ *rand.Rand) {
		u := newUse(t, level)
		u.take()
		u.write("", "")
		u.take()
		if u.taken != "" {
			t.Errorf("P8: at level %d %x is taken, though nothing was written", level, u.taken)
		}
		u.close()
	})
}

func TestP8FlushWithNothingWrittenSince(t *testing.T) {
	eachLevel(t, func(t *testing.T, level int, _ *rand.Rand) {
		for _, text := range []string{"", "straw", mixed(300), mixed(65535)} {
			for _, full := range []bool{false, true} {
				u := newUse(t, level)
				u.write(text)
				u.flush(full)
				for i := range 4 {
					before := u.taken
					u.write("")
					u.flush(i%2 == 0)
					if since := u.taken[len(before):]; since != emptied {
						t.Errorf("P8: at level %d, behind a Flush, another brings %x", level, since)
					}
				}
				u.close()
			}
		}
	})
}

// What is taken late, behind several Flushes at once, has one block for each of them too.
func TestP8FlushesThatAreTakenTogether(t *testing.T) {
	eachLevel(t, func(t *testing.T, level int, _ *rand.Rand) {
		u := newUse(t, level)
		for n := range 6 {
			text := strings.Repeat("hay", n%3)
			u.write(text)
			u.must("Flush", u.stream.Flush(n%2 == 0))
			u.flushes++
		}
		u.take()
		empty := slices.DeleteFunc(blocksOf(t, u.taken), func(b block) bool { return b.last || b.kind != 0 || b.passed != 0 || b.bytes != 0 })
		if len(empty) != 6 || !strings.HasSuffix(u.taken, emptied[1:]) {
			t.Errorf("P8: at level %d 6 Flushes bring %d blocks as they are of no bytes: %x", level, len(empty), u.taken)
		}
		u.checkTold(api.ErrEnd)
		u.close()
	})
}

func TestP8Flush(t *testing.T) {
	eachLevel(t, func(t *testing.T, level int, _ *rand.Rand) {
		for _, text := range []string{"a", "ab", "straw, straw, straw and hay", strings.Repeat("z", 3000), allBytes(), mixed(700)} {
			for _, full := range []bool{false, true} {
				u := newUse(t, level)
				u.write(text)
				u.flush(full)
				u.write(text, "x")
				u.flush(!full)
				u.write(text)
				u.flush(full)
				u.write("x", text)
				u.close()
			}
		}
	})
}

// What is ahead of the block of a Flush may end with any bit of a byte; what is passed in it is 0 in all of them.
func TestP8FlushBehindEveryBit(t *testing.T) {
	eachLevel(t, func(t *testing.T, level int, _ *rand.Rand) {
		for n := range 9 {
			u := newUse(t, level)
			u.write(allBytes()[200:][:n])
			u.flush(false)
			u.write("hay", allBytes()[240:][:n])
			u.flush(true)
			u.close()
		}
	})
}

func TestP8BehindAFullFlushIsTheFormatByItself(t *testing.T) {
	text := mixed(400)
	eachLevel(t, func(t *testing.T, level int, _ *rand.Rand) {
		u := newUse(t, level)
		u.write(text)
		u.flush(true)
		u.write(text, text)
		u.flush(false)
		u.write(text[100:])
		u.flush(true)
		u.flush(true)
		u.write(text[:300])
		u.flush(false)
		u.write(text)
		u.close()
	})
}

func TestP8Closed(t *testing.T) {
	eachLevel(t, func(t *testing.T, level int, _ *rand.Rand) {
		for _, text := range []string{"", "a", "straw, straw and straw", mixed(70000)} {
			for name, call := range callsOnStream() {
				left, refused := newUse(t, level), newUse(t, level)
				left.write(text)
				left.close()
				refused.write(text)
				refused.must("Close", refused.stream.Close())
				if err := call(refused.stream); err != api.ErrClosed {
					t.Errorf("P8: %s behind Close at level %d answers %d", name, level, err)
				}
				if refused.take(); refused.taken != left.taken {
					t.Errorf("P8: %s behind Close at level %d has changed what was not taken yet", name, level)
				}
			}
		}
	})
}

func TestP9TextsHoweverTheyAreCut(t *testing.T) {
	eachLevel(t, func(t *testing.T, level int, r *rand.Rand) {
		for _, text := range []string{"a", "abcabcabc", strings.Repeat("straw ", 300), mixed(2000), strawText(r, 5000)} {
			for _, most := range []int{1, 2, 3, 7, 300, 4000} {
				u := newUse(t, level)
				for rest := text; rest != ""; {
					n := min(len(rest), r.Intn(most+1)) // may be 0
					u.write(rest[:n])
					rest = rest[n:]
				}
				u.close()
			}
		}
	})
}

func TestP9LongTextsHoweverTheyAreCut(t *testing.T) {
	eachLevel(t, func(t *testing.T, level int, r *rand.Rand) {
		for _, n := range []int{65534, 65535, 65536, 2 * 65535, 2*65535 + 1, 200000} {
			for _, text := range []string{strawText(r, n), mixed(n)} {
				for _, cut := range []int{1, 65534, n} {
					u := newUse(t, level)
					u.write(text[:cut], "", text[cut:])
					u.close()
				}
			}
		}
	})
}

func TestP9LongTextsWithFlushes(t *testing.T) {
	eachLevel(t, func(t *testing.T, level int, r *rand.Rand) {
		for _, n := range []int{65534, 65535, 65536, 2 * 65535, 2*65535 + 1} {
			u := newUse(t, level)
			u.write(mixed(n))
			u.flush(n%2 == 0)
			u.write(strawText(r, n))
			u.flush(n%2 != 0)
			u.write(mixed(n)[n-100:])
			u.close()
		}
	})
}

// What comes again may lie in an earlier Write, ahead of a Flush, as far back as may be or farther, or where both end.
func TestP9WhatComesAgainFromEarlier(t *testing.T) {
	eachLevel(t, func(t *testing.T, level int, _ *rand.Rand) {
		for _, back := range []int{3, 40, 300, 32768, 32769, 65535, 65600} {
			text := mixed(back)
			for _, flush := range []func(u *use){
				func(*use) {},
				func(u *use) { u.take() },
				func(u *use) { u.flush(false) },
				func(u *use) { u.flush(true) },
			} {
				u := newUse(t, level)
				u.write(text)
				flush(u)
				u.write(text[:2])
				flush(u)
				u.write(text[2:min(back, 200)])
				flush(u)
				u.write(text[:3])
				u.close()
			}
		}
	})
}

func TestP9TakesBetweenWrites(t *testing.T) {
	eachLevel(t, func(t *testing.T, level int, r *rand.Rand) {
		u := newUse(t, level)
		for range 30 {
			u.write(strawText(r, r.Intn(9000)))
			u.take()
			u.take()
			if got, _, err := bale.Inflate(u.taken, len(u.written)); !strings.HasPrefix(u.written, got) || err != api.ErrEnd {
				t.Fatalf("P9: at level %d, on the way, Inflate tells %.60q (%d bytes), %d", level, got, len(got), err)
			}
		}
		u.close()
	})
}

func TestP9SizeWhereNothingComesAgain(t *testing.T) {
	eachLevel(t, func(t *testing.T, level int, r *rand.Rand) {
		for _, n := range []int{0, 1, 2, 3, 10, 31, 64, 100, 150, 200} {
			u := newUse(t, level)
			for i := range 40 {
				u.write(anyBytes(r, n))
				u.flush(i%20 == 7)
			}
			u.close()
		}
		u := newUse(t, level)
		for _, n := range []int{65535, 1, 65534, 65536, 0, 65535, 2 * 65535} {
			u.write(anyBytes(r, n))
			u.flush(n%2 == 0)
		}
		u.close()
	})
}

func anyUse(t *testing.T, r *rand.Rand, level int) {
	t.Helper()
	words := []string{"straw ", "hay", "", "\x00\x00\x00\x00", "bale of straw, bale of hay; ", strings.Repeat("z", 300), allBytes()}
	u := newUse(t, level)
	for range r.Intn(40) {
		switch r.Intn(8) {
		case 0:
			u.flush(false)
		case 1:
			u.flush(true)
		case 2:
			u.take()
		case 3:
			u.write(anyBytes(r, r.Intn(400)))
		case 4:
			u.write(strings.Repeat(words[r.Intn(len(words))], r.Intn(1<<r.Intn(10))))
		default:
			u.write(words[r.Intn(len(words))])
		}
	}
	u.close()
}

func TestP9AnyUse(t *testing.T) {
	eachLevel(t, func(t *testing.T, level int, r *rand.Rand) {
		for range 30 {
			anyUse(t, r, level)
		}
	})
}
