package pack

import (
	"bale/format"
	"bale/seen"
)

// key is as many bytes as must come again at least, so that what begins with them can be told so.
type key [format.LeastAgain]byte

// nearEnough is how far back the least count may be: from farther back its step costs more than its bytes.
const nearEnough = 4096

// effort is how thoroughly a level searches: how many places it holds against each other, and how many bytes again are enough for it, so that it does not look whether more come again from the next byte on.
type effort struct {
	tries, enough int
}

// efforts are those of the levels from 1 on.
var efforts = [...]effort{{4, 1}, {8, 1}, {16, 1}, {16, 8}, {32, 16}, {64, 32}, {128, 64}, {256, 128}, {512, 258}}

// search finds what comes again in a text that is told piece by piece.
type search struct {
	effort
	text  string // the piece, and ahead of it what can be reached from there
	table *seen.Table[key]
	known int // how many places of the text the table knows
}

func newSearch(level int) *search {
	s := &search{effort: efforts[level-1]}
	s.forget()
	return s
}

// forget begins anew: nothing that was told so far comes again.
func (s *search) forget() {
	s.text, s.known = "", 0
	s.table = seen.New[key](format.MostBack)
}

// words tells the words of the next piece.
func (s *search) words(piece string) []word {
	at := s.begin(piece)
	var words []word
	for here := s.longest(at); at < len(s.text); {
		var next word
		if here.count < s.enough {
			next = s.longest(at + 1)
		}
		if here.count == 0 || next.count > here.count {
			words = append(words, word{letter: s.text[at]})
			at, here = at+1, next
			continue
		}
		words = append(words, here)
		at += here.count
		here = s.longest(at)
	}
	return words
}

// begin lays a piece behind the text, of which it leaves out what can't be reached any more, and tells where the piece begins.
func (s *search) begin(piece string) int {
	out := max(0, len(s.text)-format.MostBack)
	ahead := s.text[out:]
	s.known -= out
	s.text = ahead + piece
	return len(ahead)
}

// longest tells the most bytes that come again in a place, from as near as may be: none, if it has found none that are worth it.
func (s *search) longest(at int) word {
	s.learn(at)
	var best word
	most := min(format.MostAgain, len(s.text)-at)
	if most < format.LeastAgain {
		return best
	}
	tries := s.tries
	for back := range s.table.Backs(keyAt(s.text, at)) {
		if count := s.same(at, back, best.count, most); count > best.count {
			best = word{count: count, back: back}
		}
		tries--
		if tries == 0 || best.count == most {
			break
		}
	}
	if best.count == format.LeastAgain && best.back > nearEnough {
		return word{}
	}
	return best
}

// learn tells the table all places ahead of one, as far as they have a key yet.
func (s *search) learn(at int) {
	for s.known < at && s.known+format.LeastAgain <= len(s.text) {
		s.table.Add(keyAt(s.text, s.known))
		s.known++
	}
}

func keyAt(text string, at int) key {
	return key([]byte(text[at : at+format.LeastAgain]))
}

// same counts the bytes, most at most, that are the same in a place and so far back. If they can't be more than best it may tell fewer.
func (s *search) same(at, back, best, most int) int {
	if s.text[at+best] != s.text[at-back+best] {
		return 0
	}
	count := 0
	for count < most && s.text[at+count] == s.text[at-back+count] {
		count++
	}
	return count
}
