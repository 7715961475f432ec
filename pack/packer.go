// Package pack writes the blocks that tell a text.
package pack

import "bale/format"

// Packer packs a text that is added part by part.
type Packer struct {
	bits   bitWriter
	piece  []byte  // what was added and is in no block yet
	search *search // nil at level 0, where all blocks are as they are
}

// New makes a packer of a level, 0 to MaxLevel.
func New(level int) *Packer {
	if level == 0 {
		return &Packer{}
	}
	return &Packer{search: newSearch(level)}
}

// Add lays a part of the text behind what was added. No block is written until it is as long as may be and more comes: else the last one might be left with nothing.
func (p *Packer) Add(text string) {
	for len(p.piece)+len(text) > format.MostAsItIs {
		room := format.MostAsItIs - len(p.piece)
		p.piece = append(p.piece, text[:room]...)
		p.block(false)
		text = text[room:]
	}
	p.piece = append(p.piece, text...)
}

// Flush writes what was added and is in no block yet, and behind it a block as it is, of no bytes: since that one ends with a byte, all that was added is told by bytes that are filled. With full, what is added from now on is told by what comes behind alone.
func (p *Packer) Flush(full bool) {
	if len(p.piece) > 0 {
		p.block(false)
	}
	p.bits.flag(false)
	asItIs("", p.bits.count).write(&p.bits)
	if full && p.search != nil {
		p.search.forget()
	}
}

// End writes the last block. Nothing may be added behind it, so what was kept for that is let go.
func (p *Packer) End() {
	p.block(true)
	p.bits.endByte()
	p.piece, p.search = nil, nil
}

// Take tells the bytes that were filled since the last Take.
func (p *Packer) Take() string {
	taken := string(p.bits.out)
	p.bits.out = nil
	return taken
}

// block writes the piece as a block, of the kind that is the shortest. No piece is longer than a block as it is may be: so all blocks together are never longer than if they were as they are.
func (p *Packer) block(last bool) {
	piece := string(p.piece)
	p.piece = p.piece[:0]
	p.bits.flag(last)
	best := asItIs(piece, p.bits.count)
	if p.search != nil {
		words := p.search.words(piece)
		counts := countsOf(words)
		best = shorter(best, shorter(fixed(words, counts), own(words, counts)))
	}
	best.write(&p.bits)
}
