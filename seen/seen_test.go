package seen

import (
	"math/rand"
	"slices"
	"testing"
)

// plainBacks looks through all keys, the last first.
func plainBacks[K comparable](keys []K, reach int, key K) []int {
	var backs []int
	for back := 1; back <= min(reach, len(keys)); back++ {
		if keys[len(keys)-back] == key {
			backs = append(backs, back)
		}
	}
	return backs
}

func checkBacks[K comparable](t *testing.T, table *Table[K], keys []K, key K) {
	t.Helper()
	if got, want := slices.Collect(table.Backs(key)), plainBacks(keys, table.reach, key); !slices.Equal(got, want) {
		t.Fatalf("of %v, with a reach of %d, %v was seen %v back, want %v", keys, table.reach, key, got, want)
	}
}

func TestEmpty(t *testing.T) {
	checkBacks(t, New[int](4), nil, 0)
}

func TestBacks(t *testing.T) {
	r := rand.New(rand.NewSource(1))
	for _, reach := range []int{1, 2, 3, 7, 32} {
		for _, kinds := range []int{1, 2, 5, 40} {
			table := New[int](reach)
			var keys []int
			for range 200 {
				key := r.Intn(kinds)
				table.Add(key)
				keys = append(keys, key)
				for key := range kinds {
					checkBacks(t, table, keys, key)
				}
			}
		}
	}
}

func TestKeysOfAnyType(t *testing.T) {
	words := New[string](3)
	pairs := New[[2]byte](3)
	var allWords []string
	var allPairs [][2]byte
	for _, word := range []string{"ab", "cd", "ab", "ab", "ef", "cd", "cd"} {
		words.Add(word)
		allWords = append(allWords, word)
		pairs.Add([2]byte([]byte(word)))
		allPairs = append(allPairs, [2]byte([]byte(word)))
	}
	for _, word := range []string{"ab", "cd", "ef", "gh"} {
		checkBacks(t, words, allWords, word)
		checkBacks(t, pairs, allPairs, [2]byte([]byte(word)))
	}
}

func TestBacksCanBeLeft(t *testing.T) {
	table := New[int](9)
	for range 9 {
		table.Add(5)
	}
	for back := range table.Backs(5) {
		if back > 1 {
			t.Fatalf("%d back was told, though the first was enough", back)
		}
		break
	}
}

func TestWhatIsOutOfReachIsForgotten(t *testing.T) {
	table := New[int](10)
	for key := range 10000 {
		table.Add(key)
		if len(table.last) > 10 || len(table.places) > 10 {
			t.Fatalf("%d keys and %d places are held", len(table.last), len(table.places))
		}
	}
}
