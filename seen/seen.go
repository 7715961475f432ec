// Package seen remembers what was seen, and how far back.
package seen

import "iter"

// Table remembers the keys of the last places, as many as it reaches back.
type Table[K comparable] struct {
	reach  int
	next   int        // the place that the next key will have
	last   map[K]int  // the last place of each key, if it is within reach
	places []place[K] // each lies at its number modulo reach
}

// place is where a key was seen, and where the same key was seen before.
type place[K comparable] struct {
	key    K
	before int // -1 if it was not
}

// New makes an empty table that reaches so many places back, at least one.
func New[K comparable](reach int) *Table[K] {
	return &Table[K]{reach: reach, last: map[K]int{}}
}

// Add tells the table the key of the next place.
func (t *Table[K]) Add(key K) {
	p := place[K]{key, -1}
	if before, ok := t.last[key]; ok {
		p.before = before
	}
	t.put(p)
	t.last[key] = t.next
	t.next++
}

// put lays a place where the one lay that is now out of reach. A key that has not been seen since then is forgotten with it, so that the map does not grow with all that ever was.
func (t *Table[K]) put(p place[K]) {
	if len(t.places) < t.reach {
		t.places = append(t.places, p)
		return
	}
	at := t.next % t.reach
	old := t.places[at].key
	if t.last[old] == t.next-t.reach {
		delete(t.last, old)
	}
	t.places[at] = p
}

// Backs tells how far back from the next place a key was seen, the nearest first.
func (t *Table[K]) Backs(key K) iter.Seq[int] {
	return func(yield func(int) bool) {
		at, ok := t.last[key]
		if !ok {
			return
		}
		for at >= 0 && t.next-at <= t.reach && yield(t.next-at) {
			at = t.places[at%t.reach].before
		}
	}
}
