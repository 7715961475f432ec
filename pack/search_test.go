package pack

import (
	"math/rand"
	"slices"
	"strings"
	"testing"

	"bale/api"
)

// unlike is 32768 bytes of which no three come again: each two of them are another number, the first one with its highest bit.
func unlike() string {
	var text []byte
	for i := range 1 << 14 {
		text = append(text, byte(128+i>>7), byte(i&127))
	}
	return string(text)
}

func anyBytes(n int) string {
	r := rand.New(rand.NewSource(int64(n)))
	text := make([]byte, n)
	r.Read(text)
	return string(text)
}

// theAgains is those of some words that are no letters.
func theAgains(words []word) []word {
	return slices.DeleteFunc(words, func(w word) bool { return w.count == 0 })
}

func TestWhatComesAgainIsFound(t *testing.T) {
	long := unlike()
	for _, c := range []struct {
		name string
		text string
		want []word
	}{
		{"nothing", "", nil},
		{"nothing again", "abcdefgh", nil},
		{"fewer than can be told", "abxab", nil},
		{"the least", "abcxabc", []word{{count: 3, back: 4}}},
		{"such as have just come", "abababab", []word{{count: 6, back: 2}}},
		{"one byte", strings.Repeat("a", 260), []word{{count: 258, back: 1}}},
		{"one byte more times than can be told at once", strings.Repeat("a", 265), []word{{count: 258, back: 1}, {count: 6, back: 1}}},
		{"the nearest of two", "abcdxabcdyabcd", []word{{count: 4, back: 5}, {count: 4, back: 5}}},
		{"the longer of two", "abcdefxabcdyabcdef", []word{{count: 4, back: 7}, {count: 6, back: 12}}},
		{"from as far back as may be", long + long[:9], []word{{count: 9, back: 32768}}},
		{"from farther back", long + "z" + long[:9], nil},
		{"the least, from too far back to be worth it", long + long[:3], nil},
	} {
		for level := 1; level <= api.MaxLevel; level++ {
			if got := theAgains(newSearch(level).words(c.text)); !slices.Equal(got, c.want) {
				t.Errorf("%s, at level %d: %v, want %v", c.name, level, got, c.want)
			}
		}
	}
}

func TestWhatComesAgainIsFoundAcrossPieces(t *testing.T) {
	text := anyBytes(300)
	for cut := range len(text) {
		s := newSearch(1)
		s.words(text[:cut])
		s.words(text[cut:])
		if got := s.words(text[:200]); !slices.Equal(got, []word{{count: 200, back: 300}}) {
			t.Errorf("behind pieces of %d and %d bytes: %v", cut, len(text)-cut, got)
		}
	}
}

func TestThoroughLevelsLookAtTheNextByteToo(t *testing.T) {
	const text = "abc,bcdefghi;abcdefghi"
	if got := theAgains(newSearch(1).words(text)); !slices.Equal(got, []word{{count: 3, back: 13}, {count: 6, back: 10}}) {
		t.Errorf("at level 1: %v", got)
	}
	if got := theAgains(newSearch(9).words(text)); !slices.Equal(got, []word{{count: 8, back: 10}}) {
		t.Errorf("at level 9: %v", got)
	}
}

// However many places there are, a level tries no more than it says: else it might take very long.
func TestTriesAreCounted(t *testing.T) {
	for i, e := range efforts {
		for more, want := range map[int]int{-1: 6, 0: 3} {
			s := newSearch(i + 1)
			s.begin("abcdef" + strings.Repeat("abc.", e.tries+more) + "abcdef")
			if got := s.longest(len(s.text) - 6); got.count != want {
				t.Errorf("level %d, with %d tries, has found %v where %d are nearer", i+1, e.tries, got, e.tries+more)
			}
		}
	}
}
