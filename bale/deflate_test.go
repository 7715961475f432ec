package bale_test

import (
	"bytes"
	"compress/flate"
	"compress/zlib"
	"io"
	"math/rand"
	"strings"
	"sync"
	"testing"

	"bale/api"
	"bale/bale"
)

// levels is how many there are, from 0 on.
const levels = 10

// asTheyAre is a text in blocks as they are, each as long as may be, with the passed bits 0.
func asTheyAre(text string) string {
	data := ""
	for len(text) > 65535 {
		data += "\x00" + stored(text[:65535])
		text = text[65535:]
	}
	return data + "\x01" + stored(text)
}

// checkBlocks holds blocks to all that is said of those that tell a text at a level.
func checkBlocks(t *testing.T, name, blocks, text string, level int) {
	t.Helper()
	plain := asTheyAre(text)
	if level == 0 && blocks != plain {
		t.Errorf("P7: %s, %d bytes, at level 0: %.40x (%d bytes), want %.40x (%d bytes)", name, len(text), blocks, len(blocks), plain, len(plain))
	}
	if len(blocks) > len(plain) {
		t.Errorf("P7: %s, %d bytes, at level %d: %d bytes, more than the %d of level 0", name, len(text), level, len(blocks), len(plain))
	}
	if got, used, err := bale.Inflate(blocks, len(text)); got != text || used != len(blocks) || err != api.OK {
		t.Errorf("P7: %s, %d bytes, at level %d: Inflate of it is %.60q (%d bytes), %d of %d used, %d", name, len(text), level, got, len(got), used, len(blocks), err)
	}
	if got, err := io.ReadAll(flate.NewReader(strings.NewReader(blocks))); string(got) != text || err != nil {
		t.Errorf("P7: %s, %d bytes, at level %d: others read %.60q (%d bytes), %v", name, len(text), level, got, len(got), err)
	}
}

// deflate packs a text, holds the blocks to what is said of them, and tells them.
func deflate(t *testing.T, name, text string, level int) string {
	t.Helper()
	blocks, err := bale.Deflate(text, level)
	if err != api.OK {
		t.Errorf("P7: %s, %d bytes: Deflate at level %d answers %d", name, len(text), level, err)
	}
	checkBlocks(t, name, blocks, text, level)
	return blocks
}

// framed packs a text with a frame, holds it to what is said of it, and tells the blocks in it.
func framed(t *testing.T, name, text string, level int) string {
	t.Helper()
	data, err := bale.Frame(text, level)
	if err != api.OK || len(data) < 6 || data[0] != 0x78 {
		t.Fatalf("P7: %s, %d bytes: Frame at level %d answers %.20x (%d bytes), %d", name, len(text), level, data, len(data), err)
	}
	if got, err := bale.Unframe(data, len(text)); got != text || err != api.OK {
		t.Errorf("P7: %s, %d bytes, at level %d: Unframe of it is %.60q (%d bytes), %d", name, len(text), level, got, len(got), err)
	}
	if z, err := zlib.NewReader(strings.NewReader(data)); err != nil {
		t.Errorf("P7: %s, %d bytes, at level %d: others read no frame, %v", name, len(text), level, err)
	} else if got, err := io.ReadAll(z); string(got) != text || err != nil {
		t.Errorf("P7: %s, %d bytes, at level %d: others read %.60q (%d bytes) of the frame, %v", name, len(text), level, got, len(got), err)
	}
	blocks := data[2 : len(data)-4]
	checkBlocks(t, name+", framed", blocks, text, level)
	return blocks
}

func checkPacked(t *testing.T, name, text string) {
	t.Helper()
	for level := range levels {
		deflate(t, name, text, level)
		framed(t, name, text, level)
	}
}

func TestP7Examples(t *testing.T) {
	for text, want := range map[string]string{"ab": raw("01 02 00 fd ff 61 62"), "": raw("01 00 00 ff ff")} {
		if data, err := bale.Deflate(text, 0); data != want || err != api.OK {
			t.Errorf("P7: Deflate(%q, 0) = %x, %d, want %x", text, data, err, want)
		}
	}
}

func TestP7NoLevels(t *testing.T) {
	for _, level := range []int{-1, -2, -9, 10, 11, 99, 256, 1 << 32, 1<<63 - 1, -1 << 63, -1 << 32} {
		for _, text := range []string{"", "a", mixed(70000)} {
			if data, err := bale.Deflate(text, level); data != "" || err != api.ErrNumber {
				t.Errorf("P7: Deflate of %d bytes at level %d = %.20x, %d", len(text), level, data, err)
			}
			if data, err := bale.Frame(text, level); data != "" || err != api.ErrNumber {
				t.Errorf("P7: Frame of %d bytes at level %d = %.20x, %d", len(text), level, data, err)
			}
		}
	}
}

func TestP7ShortTexts(t *testing.T) {
	for _, text := range []string{"", "a", "\x00", "\xff", "ab", "aa", "abc", "aaa", "aaaa", "abab", "abcab", "abcabc", "abcdabc", "abcabcabcabcabcabc", "aaabbbaaabbb", "straw, straw, straw and hay"} {
		checkPacked(t, "a short text", text)
	}
}

// allBytes is each byte once: so nothing comes again.
func allBytes() string {
	all := make([]byte, 256)
	for i := range all {
		all[i] = byte(i)
	}
	return string(all)
}

func TestP7NothingComesAgain(t *testing.T) {
	checkPacked(t, "all bytes", allBytes())
	for n := range 300 {
		for _, level := range []int{1, 6, 9} {
			deflate(t, "all bytes cut", allBytes()[min(n, 256):], level)
			deflate(t, "random bytes", mixed(n), level)
		}
	}
	for _, n := range []int{1000, 5000, 40000} {
		checkPacked(t, "random bytes", mixed(n))
	}
}

func TestP7Level0(t *testing.T) {
	for _, n := range []int{0, 1, 2, 255, 256, 257, 65534, 65535, 65536, 65537, 2*65535 - 1, 2 * 65535, 2*65535 + 1, 3 * 65535, 200000} {
		deflate(t, "random bytes", mixed(n), 0)
		deflate(t, "the same byte", strings.Repeat("\x00", n), 0)
		framed(t, "random bytes", mixed(n), 0)
	}
}

func TestP7LongTexts(t *testing.T) {
	r := rand.New(rand.NewSource(11))
	for _, n := range []int{65535, 65536, 2*65535 + 1} {
		checkPacked(t, "a long text of random bytes", mixed(n))
		checkPacked(t, "a long text with much that comes again", strawText(r, n))
	}
	checkPacked(t, "words", strings.Repeat("the straw of the bale ", 9000))
	checkPacked(t, "a long text that comes again from too far back", mixed(40000)+mixed(40000))
}

// Each piece of a text may be packed otherwise than the one ahead of it, which may end with any bit of a byte.
func TestP7PiecesOfManyKinds(t *testing.T) {
	r := rand.New(rand.NewSource(12))
	for n := range 8 {
		text := strings.Repeat("hay", 65535/3) + mixed(65535) + strings.Repeat("a", n) + strawText(r, 65535-n) + mixed(65535+n)
		for _, level := range []int{1, 5, 9} {
			deflate(t, "pieces of many kinds", strings.Repeat("straw", n)+text, level)
		}
	}
}

func TestP7BytesAgainOfEveryCount(t *testing.T) {
	ahead := mixed(600)
	for count := range 300 {
		deflate(t, "so many bytes again", ahead+ahead[:count], 1)
		deflate(t, "so many bytes again, and another", ahead+ahead[:count]+"z", 9)
	}
}

func TestP7BytesAgainFromEveryStep(t *testing.T) {
	backs := []int{1, 2, 3, 4, 32767, 32768, 32769, 32770, 33000}
	for bits := 1; bits < 14; bits++ {
		for _, least := range []int{2<<bits + 1, 3<<bits + 1} {
			backs = append(backs, least-1, least, least+1<<bits-1)
		}
	}
	for _, back := range backs {
		ahead := mixed(back)
		for _, count := range []int{3, 4, 300} {
			again := strings.Repeat(ahead, count)[:count]
			deflate(t, "from so far back", ahead+again+"z", 1+back%9)
		}
	}
}

// What comes again may begin, end or lie across where a piece of 65535 bytes ends.
func TestP7BytesAgainWherePiecesEnd(t *testing.T) {
	again := mixed(50)
	for _, n := range []int{0, 1, 2, 3, 4, 25, 48, 49, 50, 51, 52} {
		ahead := mixed(65535 - n)
		deflate(t, "where a piece ends", ahead+again+again, 6)
		deflate(t, "behind it", ahead+again+mixed(30)+again, 1)
		deflate(t, "ahead of it", ahead[:len(ahead)-50]+again+again, 9)
	}
}

func TestP7AnyTexts(t *testing.T) {
	r := rand.New(rand.NewSource(13))
	for i := range 80 {
		text := []byte(strawText(r, r.Intn(6000)))
		if i%2 == 0 {
			for at, kinds := 0, 1+r.Intn(20); at < len(text); at++ {
				text[at] = byte(r.Intn(kinds))
			}
		}
		checkPacked(t, "any text", string(text))
	}
}

// Of some letters the best codes would be longer than may be.
func TestP7LettersOfVeryUnlikeCounts(t *testing.T) {
	r := rand.New(rand.NewSource(14))
	var text []byte
	for i, count := range fibonacci(22) {
		text = append(text, bytes.Repeat([]byte{byte(i)}, count)...)
	}
	r.Shuffle(len(text), func(a, b int) { text[a], text[b] = text[b], text[a] })
	checkPacked(t, "letters of very unlike counts", string(text))
}

func TestP7OneByteManyTimes(t *testing.T) {
	times := []int{700, 1000, 5000, 32767, 32768, 65534, 65535, 65536, 65537, 2 * 65535, 2*65535 + 1, 300000, 1000000}
	for n := range 530 {
		times = append(times, n)
	}
	for i, n := range times {
		text := strings.Repeat("z\x00\xff\x90"[i%4:][:1], n)
		for level := 1; level < levels; level++ {
			if blocks := deflate(t, "one byte", text, level); len(blocks) > 32+n/100 {
				t.Errorf("P7: %q %d times at level %d: %d bytes, more than %d", text[:1], n, level, len(blocks), 32+n/100)
			}
		}
		for _, level := range []int{1, 9} {
			if blocks := framed(t, "one byte", text, level); len(blocks) > 32+n/100 {
				t.Errorf("P7: %q %d times, framed at level %d: %d bytes, more than %d", text[:1], n, level, len(blocks), 32+n/100)
			}
		}
	}
}

func TestP2DeflateHangsOnItsArgumentsAlone(t *testing.T) {
	r := rand.New(rand.NewSource(15))
	var texts, want []string
	for level := range levels {
		for range 5 {
			text := strawText(r, r.Intn(9000))
			blocks, _ := bale.Deflate(text, level)
			texts, want = append(texts, text), append(want, blocks)
		}
	}
	var wait sync.WaitGroup
	for range 8 {
		wait.Go(func() {
			for i, text := range texts {
				if got, err := bale.Deflate(text, i/5); got != want[i] || err != api.OK {
					t.Errorf("P2: asked again, Deflate of %d bytes at level %d answers %d other bytes, %d", len(text), i/5, len(got), err)
				}
			}
		})
	}
	wait.Wait()
}
