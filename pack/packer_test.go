package pack

import (
	"strings"
	"testing"

	"bale/api"
	"bale/format"
)

// again tells how many bytes come of a text that was added before, with this in between.
func again(level int, between func(p *Packer)) int {
	p := New(level)
	p.Add(anyBytes(1000))
	between(p)
	p.Flush(false)
	p.Take()
	p.Add(anyBytes(1000))
	p.End()
	return len(p.Take())
}

func TestWhatIsAheadOfAFlushComesAgainUnlessItIsFull(t *testing.T) {
	for level := 1; level <= api.MaxLevel; level++ {
		for name, between := range map[string]func(p *Packer){
			"nothing":    func(*Packer) {},
			"a take":     func(p *Packer) { p.Take() },
			"a flush":    func(p *Packer) { p.Flush(false) },
			"more parts": func(p *Packer) { p.Add("straw"); p.Flush(false); p.Add("hay") },
		} {
			if got := again(level, between); got > 40 {
				t.Errorf("level %d, with %s between: 1000 bytes again are %d bytes", level, name, got)
			}
		}
		if got := again(level, func(p *Packer) { p.Flush(true) }); got < 1000 {
			t.Errorf("level %d: behind a full Flush 1000 bytes are %d bytes", level, got)
		}
	}
}

func TestBehindAFullFlushWhatComesAgainIsFound(t *testing.T) {
	for level := 1; level <= api.MaxLevel; level++ {
		p := New(level)
		p.Add(anyBytes(3000))
		p.Flush(true)
		p.Take()
		p.Add(anyBytes(500) + anyBytes(500))
		p.End()
		if got := len(p.Take()); got > 550 {
			t.Errorf("level %d: behind a full Flush 500 bytes and the same again are %d bytes", level, got)
		}
	}
}

// A text may be added in any parts: where one ends is not to be seen in the blocks.
func TestPartsDoNotShow(t *testing.T) {
	text := strings.Repeat("straw and hay ", 10000) + anyBytes(format.MostAsItIs)
	for level := 0; level <= api.MaxLevel; level++ {
		whole, parts := New(level), New(level)
		whole.Add(text)
		whole.End()
		for at, n := 0, 0; at < len(text); at, n = at+n, n+7 {
			parts.Add(text[at:min(at+n, len(text))])
		}
		parts.End()
		if whole.Take() != parts.Take() {
			t.Errorf("at level %d a text in parts has other blocks", level)
		}
	}
}

func TestBehindTheEndNothingIsKept(t *testing.T) {
	p := New(9)
	p.Add(anyBytes(100000))
	p.End()
	p.Take()
	if p.piece != nil || p.search != nil || p.bits.out != nil || p.bits.count != 0 {
		t.Errorf("behind the end %d bytes of a piece, %d that came and %d bits are kept", len(p.piece), len(p.bits.out), p.bits.count)
	}
}
