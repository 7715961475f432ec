package pack

import (
	"math/rand"
	"strings"
	"testing"

	"bale/format"
)

// anyWords is some words, which need not tell a text.
func anyWords(r *rand.Rand) []word {
	words := make([]word, r.Intn(2000))
	kinds, farthest := 1+r.Intn(256), 1+r.Intn(format.MostBack)
	for i := range words {
		words[i].letter = byte(r.Intn(kinds))
		if kinds%2 == 0 && r.Intn(3) == 0 {
			words[i] = word{count: format.LeastAgain + r.Intn(format.MostAgain-format.LeastAgain+1), back: 1 + r.Intn(farthest)}
		}
	}
	return words
}

// A block is the shortest, and so never longer than one as it is, only if each kind has as many bits as it says ahead of being written.
func TestBodiesHaveAsManyBitsAsTheyTell(t *testing.T) {
	r := rand.New(rand.NewSource(1))
	for round := range 400 {
		words := anyWords(r)
		c := countsOf(words)
		begun := round % 8
		for name, b := range map[string]body{
			"as it is": asItIs(string(make([]byte, len(words))), begun),
			"fixed":    fixed(words, c),
			"own":      own(words, c),
		} {
			var w bitWriter
			w.number(0, begun)
			b.write(&w)
			if got := 8*len(w.out) + w.count - begun; got != b.bits {
				t.Fatalf("%s, of %d words, behind %d bits: %d bits, told were %d", name, len(words), begun, got, b.bits)
			}
		}
	}
}

func TestTheShortestKindIsTaken(t *testing.T) {
	for _, c := range []struct {
		name, text string
		kind       byte
	}{
		{"nothing", "", format.Fixed},
		{"few letters", "straw", format.Fixed},
		{"random bytes", anyBytes(500), format.AsItIs},
		{"few kinds of letters", strings.Repeat("a", 9000) + strings.Repeat("abbabaab", 4) + "bababbbaaaabab", format.Own},
	} {
		p := New(9)
		p.Add(c.text)
		p.End()
		if kind := p.Take()[0] >> 1 & 3; kind != c.kind {
			t.Errorf("%s: a block of kind %d, want %d", c.name, kind, c.kind)
		}
	}
}
