package bale_test

import (
	"math/rand"
	"slices"
	"strconv"
	"strings"
	"sync"
	"testing"

	"bale/api"
	"bale/bale"
)

// deed is something that is done with a stream; it tells what was taken by it.
type deed func(s *bale.Stream) string

func writing(text string) deed {
	return func(s *bale.Stream) string {
		s.Write(text)
		return ""
	}
}

func flushing(full bool) deed {
	return func(s *bale.Stream) string {
		s.Flush(full)
		return ""
	}
}

func closing(s *bale.Stream) string {
	s.Close()
	return ""
}

// anyDeeds is deeds of all kinds, always as many of them; behind them nothing is left to take.
func anyDeeds(r *rand.Rand) []deed {
	var deeds []deed
	for range 30 {
		switch r.Intn(5) {
		case 0:
			deeds = append(deeds, flushing(r.Intn(2) == 0))
		case 1:
			deeds = append(deeds, (*bale.Stream).Take)
		default:
			deeds = append(deeds, writing(strawText(r, r.Intn(1<<r.Intn(13)))))
		}
	}
	return append(deeds, closing, (*bale.Stream).Take, writing("behind"), (*bale.Stream).Take)
}

// all does all deeds with a new stream, and tells what was taken by each.
func all(level int, deeds []deed) []string {
	s, _ := bale.New(level)
	var taken []string
	for _, d := range deeds {
		taken = append(taken, d(s))
	}
	return taken
}

func TestP8StreamsInTurnDoNotTouchEachOther(t *testing.T) {
	r := rand.New(rand.NewSource(31))
	for i := range 60 {
		lists := [][]deed{anyDeeds(r), anyDeeds(r), anyDeeds(r)}
		chosen := []int{i % levels, i % levels, r.Intn(levels)}
		streams := make([]*bale.Stream, len(lists))
		taken := make([][]string, len(lists))
		for k, level := range chosen {
			streams[k] = newStream(t, level)
		}
		for turn := range lists[0] {
			for k := range lists {
				taken[k] = append(taken[k], lists[k][turn](streams[k]))
			}
		}
		for k, level := range chosen {
			if want := all(level, lists[k]); !slices.Equal(taken[k], want) {
				t.Fatalf("P8: in turn with others a stream at level %d tells something else than by itself", level)
			}
		}
	}
}

func TestP2StreamsHangOnWhatWasDoneWithThemAlone(t *testing.T) {
	r := rand.New(rand.NewSource(32))
	for level := range levels {
		deeds := anyDeeds(r)
		want := all(level, deeds)
		var wait sync.WaitGroup
		for range 6 {
			wait.Go(func() {
				if got := all(level, deeds); !slices.Equal(got, want) {
					t.Errorf("P2: another stream at level %d, with which the same is done, tells something else", level)
				}
			})
		}
		wait.Wait()
	}
}

// sheaf is what a writer writes at once: who it is, how many it wrote ahead of this, how much straw it has, and the straw.
func sheaf(writer, nth, straw int) string {
	return strconv.Itoa(writer) + "," + strconv.Itoa(nth) + "," + strconv.Itoa(straw) + ":" + strings.Repeat(string(rune('a'+writer)), straw)
}

// strawOf is how much straw is in a sheaf: now and then more than a block can hold.
func strawOf(writer, nth int) int {
	if nth%3 == 2 {
		return 66000 + writer
	}
	return (writer*31 + nth*17) % 90
}

// checkSheaves holds a text to be whole sheaves, so many of each writer, those of each in their order.
func checkSheaves(t *testing.T, text string, want []int) {
	t.Helper()
	got := make([]int, len(want))
	for text != "" {
		writer := -1
		for w, nth := range got {
			if nth < want[w] && strings.HasPrefix(text, sheaf(w, nth, strawOf(w, nth))) {
				writer = w
			}
		}
		if writer < 0 {
			t.Fatalf("P8: what was written at once is mixed: %.80q (%d bytes left)", text, len(text))
		}
		text = text[len(sheaf(writer, got[writer], strawOf(writer, got[writer]))):]
		got[writer]++
	}
	if !slices.Equal(got, want) {
		t.Errorf("P8: of what was written at once %v Writes are told, want %v", got, want)
	}
}

// writeSheaves writes up to so many sheaves, and tells how many were written until the stream was closed.
func writeSheaves(s *bale.Stream, writer, most int) int {
	for nth := range most {
		if s.Write(sheaf(writer, nth, strawOf(writer, nth))) != api.OK {
			return nth
		}
	}
	return most
}

// toldByAll is the text of all that was taken of a stream that is closed.
func toldByAll(t *testing.T, taken string) string {
	t.Helper()
	text, used, err := bale.Inflate(taken, 1<<30)
	if used != len(taken) || err != api.OK {
		t.Fatalf("P8: of what was written at once Inflate tells %d bytes, %d of %d used, %d", len(text), used, len(taken), err)
	}
	return text
}

func TestP8SeveralWriteAtOnce(t *testing.T) {
	eachLevel(t, func(t *testing.T, level int, _ *rand.Rand) {
		s := newStream(t, level)
		var wait sync.WaitGroup
		for writer := range 6 {
			wait.Go(func() { writeSheaves(s, writer, 12) })
		}
		wait.Wait()
		s.Close()
		checkSheaves(t, toldByAll(t, s.Take()), repeat(6, 12))
	})
}

// Some write, some flush, and one takes until they are done: what each Write wrote stays together, and no byte is lost or comes twice.
func TestP8AllCallsAtOnce(t *testing.T) {
	eachLevel(t, func(t *testing.T, level int, _ *rand.Rand) {
		s := newStream(t, level)
		var wait sync.WaitGroup
		for writer := range 4 {
			wait.Go(func() { writeSheaves(s, writer, 12) })
		}
		for flusher := range 2 {
			wait.Go(func() {
				for range 100 {
					s.Flush(flusher == 0)
				}
			})
		}
		done, taken := make(chan bool), make(chan string)
		go func() { taken <- takeUntil(s, done) }()
		wait.Wait()
		close(done)
		all := <-taken
		s.Close()
		checkSheaves(t, toldByAll(t, all+s.Take()), repeat(4, 12))
	})
}

// takeUntil takes again and again, and tells all that was taken.
func takeUntil(s *bale.Stream, done <-chan bool) string {
	var all strings.Builder
	for {
		select {
		case <-done:
			return all.String()
		default:
			all.WriteString(s.Take())
		}
	}
}

// All who write close the stream behind that: one Close ends it, and what is told are just those Writes that it did not refuse.
func TestP8SeveralCloseAtOnce(t *testing.T) {
	eachLevel(t, func(t *testing.T, level int, _ *rand.Rand) {
		for range 10 {
			s := newStream(t, level)
			wrote, closed := make([]int, 4), make([]api.Errno, 4)
			var wait sync.WaitGroup
			for i := range wrote {
				wait.Go(func() {
					wrote[i] = writeSheaves(s, i, 6)
					closed[i] = s.Close()
				})
			}
			wait.Wait()
			slices.Sort(closed)
			if !slices.Equal(closed, []api.Errno{api.OK, api.ErrClosed, api.ErrClosed, api.ErrClosed}) {
				t.Fatalf("P8: Closes at once answer %v", closed)
			}
			checkSheaves(t, toldByAll(t, s.Take()), wrote)
		}
	})
}

// To flush without full is to tell by what is ahead what comes again behind: that is what full is not asked for.
func TestWhatIsAheadOfAFlushComesAgain(t *testing.T) {
	for level := 1; level < levels; level++ {
		u := newUse(t, level)
		u.write(mixed(1000))
		u.flush(false)
		ahead := len(u.taken)
		u.write(mixed(1000))
		u.close()
		if n := len(u.taken) - ahead; n > 40 {
			t.Errorf("at level %d, behind a Flush, 1000 bytes that come again are %d bytes", level, n)
		}
	}
}
