package bale_test

import (
	"hash/adler32"
	"math/rand"
	"strings"
	"testing"

	"bale/bale"
)

// plainSum is the document's rule with numbers so great that the modulus can wait until the end (for texts below some 10 million bytes).
func plainSum(text string) uint32 {
	a, b := uint64(1), uint64(0)
	for _, c := range []byte(text) {
		a += uint64(c)
		b += a
	}
	return uint32(b%65521*65536 + a%65521)
}

func TestP3SumOfKnownTexts(t *testing.T) {
	for text, want := range map[string]uint32{
		"":             1,
		"Wikipedia":    300286872,
		"a":            0x00620062,
		"abc":          0x024d0127,
		"\x00":         0x00010001,
		"\xff":         0x01000100,
		"\u00e9":       0x0231016d,
		"\xc3\x28\x80": 0x031c016c,
	} {
		if got := bale.Sum(text); got != want {
			t.Errorf("P3: Sum(%q) = %#x, want %#x", text, got, want)
		}
	}
}

func TestP3SumOfLongTexts(t *testing.T) {
	for _, piece := range []string{"\x00", "\x01", "\xff", "\u20ac", "bale "} {
		for _, n := range []int{255, 256, 257, 5551, 5552, 5553, 65519, 65520, 65521, 65522, 1 << 20} {
			text := strings.Repeat(piece, n)
			got := bale.Sum(text)
			if want := adler32.Checksum([]byte(text)); got != want || got != plainSum(text) {
				t.Errorf("P3: Sum of %d times %q = %d, want %d", n, piece, got, want)
			}
		}
	}
}

func TestP3SumOfAnyBytes(t *testing.T) {
	r := rand.New(rand.NewSource(3))
	for n := range 500 {
		bytes := make([]byte, n)
		r.Read(bytes)
		text := string(bytes)
		if got := bale.Sum(text); got != plainSum(text) {
			t.Fatalf("P3: Sum(%q) = %d, want %d", text, got, plainSum(text))
		}
	}
}
