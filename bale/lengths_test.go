package bale_test

import (
	"math"
	"math/rand"
	"slices"
	"testing"

	"bale/api"
	"bale/bale"
)

const never = math.MaxInt

// leastCost is the least sum of counts times lengths over all complete codes of two symbols or more with no length above most. It goes down the codes' trees, the greatest counts first: placed[k][nodes] is the least cost with k counts placed and so many nodes that part in two. What is not placed yet costs once more at each depth.
func leastCost(counts []int, most int) int {
	sorted := slices.DeleteFunc(slices.Clone(counts), func(count int) bool { return count == 0 })
	slices.Sort(sorted)
	slices.Reverse(sorted)
	n := len(sorted)
	rest := make([]int, n+1)
	for k := n - 1; k >= 0; k-- {
		rest[k] = rest[k+1] + sorted[k]
	}
	placed := table(n + 1)
	placed[0][1] = 0
	best := never
	for range most {
		deeper := table(n + 1)
		for k := range n {
			for nodes, cost := range placed[k] {
				if cost == never {
					continue
				}
				cost += rest[k]
				if k+2*nodes == n {
					best = min(best, cost)
				}
				for leaves := 0; leaves < 2*nodes && k+leaves < n; leaves++ {
					if open := 2*nodes - leaves; k+leaves+2*open <= n {
						deeper[k+leaves][open] = min(deeper[k+leaves][open], cost)
					}
				}
			}
		}
		placed = deeper
	}
	return best
}

func table(n int) [][]int {
	rows := make([][]int, n)
	for i := range rows {
		rows[i] = repeat(n, never)
	}
	return rows
}

func used(counts []int) int {
	n := 0
	for _, count := range counts {
		n += min(count, 1)
	}
	return n
}

func costOf(counts, lengths []int) int {
	sum := 0
	for i := range counts {
		sum += counts[i] * lengths[i]
	}
	return sum
}

// checkLengths holds an answer against all that P4 says of good counts.
func checkLengths(t *testing.T, counts []int, most int) {
	t.Helper()
	lengths, err := bale.Lengths(counts, most)
	if err != api.OK || len(lengths) != len(counts) {
		t.Fatalf("P4: Lengths(%v, %d) = %v, %d", counts, most, lengths, err)
	}
	for i, length := range lengths {
		if length < 0 || length > most || (length == 0) != (counts[i] == 0) {
			t.Fatalf("P4: Lengths(%v, %d) = %v: %d of count %d", counts, most, lengths, length, counts[i])
		}
		for k := range lengths {
			if counts[k] > 0 && counts[i] > counts[k] && length > lengths[k] {
				t.Fatalf("P4: Lengths(%v, %d) = %v: count %d has %d, count %d has %d", counts, most, lengths, counts[i], length, counts[k], lengths[k])
			}
		}
	}
	switch used(counts) {
	case 0:
	case 1:
		if slices.Max(lengths) != 1 {
			t.Fatalf("P4: Lengths(%v, %d) = %v", counts, most, lengths)
		}
	default:
		if weightOf(lengths) != 1<<15 {
			t.Fatalf("P4: Lengths(%v, %d) = %v is not complete", counts, most, lengths)
		}
		if got, want := costOf(counts, lengths), leastCost(counts, most); got != want {
			t.Fatalf("P4: Lengths(%v, %d) = %v costs %d, want %d", counts, most, lengths, got, want)
		}
	}
}

func fibonacci(n int) []int {
	counts := []int{1, 1}
	for len(counts) < n {
		counts = append(counts, min(api.MaxCount, counts[len(counts)-1]+counts[len(counts)-2]))
	}
	return counts
}

func TestP4LengthsOfKnownCounts(t *testing.T) {
	for _, c := range []struct {
		counts []int
		most   int
		want   []int
	}{
		{[]int{1, 1, 2, 4, 0}, 15, []int{3, 3, 2, 1, 0}},
		{[]int{1, 1, 2, 4, 0}, 2, []int{2, 2, 2, 2, 0}},
		{nil, 1, nil},
		{[]int{}, 15, nil},
		{[]int{0}, 1, []int{0}},
		{[]int{0, 0, 0}, 15, []int{0, 0, 0}},
		{[]int{1}, 1, []int{1}},
		{[]int{0, 1000000000, 0}, 15, []int{0, 1, 0}},
		{[]int{5, 0, 9}, 1, []int{1, 0, 1}},
		{[]int{1, 1000000000}, 15, []int{1, 1}},
		{[]int{1, 3, 1}, 2, []int{2, 1, 2}},
		{[]int{1000000000, 1, 1}, 2, []int{1, 2, 2}},
		{[]int{16, 8, 4, 2, 1}, 15, []int{1, 2, 3, 4, 4}},
		{[]int{16, 8, 4, 2, 1}, 3, []int{1, 3, 3, 3, 3}},
	} {
		got, err := bale.Lengths(c.counts, c.most)
		if !slices.Equal(got, c.want) || err != api.OK {
			t.Errorf("P4: Lengths(%v, %d) = %v, %d, want %v", c.counts, c.most, got, err, c.want)
		}
	}
}

func TestP4LengthsRefused(t *testing.T) {
	for _, c := range []struct {
		name   string
		counts []int
		most   int
	}{
		{"most 0", []int{1, 1}, 0},
		{"most 16", []int{1, 1}, 16},
		{"most -1", []int{1, 1}, -1},
		{"most 64", []int{1, 1}, 64},
		{"no counts, most 0", nil, 0},
		{"no counts, most 16", nil, 16},
		{"one count, most 0", []int{1}, 0},
		{"the least most", []int{1, 1}, math.MinInt},
		{"the greatest most", []int{1, 1}, math.MaxInt},
		{"-1", []int{-1}, 15},
		{"-1 behind others", []int{1, 2, 3, -1}, 15},
		{"1000000001", []int{1000000001}, 15},
		{"1000000001 behind others", []int{1, 2, 3, 1000000001}, 15},
		{"the least count", []int{1, math.MinInt}, 15},
		{"the greatest count", []int{1, math.MaxInt}, 15},
		{"321 noughts", repeat(321, 0), 15},
		{"321 counts", repeat(321, 1), 15},
		{"very many", repeat(1<<20, 1), 15},
		{"all at once", repeat(321, -1), 0},
	} {
		got, err := bale.Lengths(c.counts, c.most)
		if len(got) != 0 || err != api.ErrNumber {
			t.Errorf("P1, P4: Lengths of %s = %d numbers, %d, want %d", c.name, len(got), err, api.ErrNumber)
		}
	}
}

func TestP4AsManyAsThereIsRoomFor(t *testing.T) {
	for most := 1; most <= 8; most++ {
		room := 1 << most
		counts := append(fibonacci(room), repeat(320-room, 0)...)
		lengths, err := bale.Lengths(counts, most)
		if want := append(repeat(room, most), repeat(320-room, 0)...); err != api.OK || !slices.Equal(lengths, want) {
			t.Errorf("P4: Lengths of %d counts, %d = %v, %d", room, most, lengths, err)
		}
		counts[319] = 1
		if lengths, err := bale.Lengths(counts, most); err != api.ErrNumber || len(lengths) != 0 {
			t.Errorf("P4: Lengths of %d counts, %d = %v, %d", room+1, most, lengths, err)
		}
		checkLengths(t, counts, most+1)
	}
}

func TestP4LengthsAtTheEdges(t *testing.T) {
	for most := 1; most <= 15; most++ {
		checkLengths(t, nil, most)
		checkLengths(t, repeat(320, 0), most)
		checkLengths(t, append(repeat(319, 0), 1), most)
		checkLengths(t, append(repeat(319, 0), api.MaxCount), most)
		checkLengths(t, []int{api.MaxCount, api.MaxCount}, most)
		checkLengths(t, append(repeat(318, 0), 1, api.MaxCount), most)
	}
	for _, most := range []int{9, 12, 15} {
		checkLengths(t, repeat(320, 1), most)
		checkLengths(t, repeat(320, api.MaxCount), most)
		checkLengths(t, append(repeat(300, api.MaxCount), repeat(20, 1)...), most)
		checkLengths(t, append(fibonacci(45), repeat(275, 1)...), most)
	}
}

func TestP4LengthsThatMustBeCutShort(t *testing.T) {
	for n := 2; n <= 45; n++ {
		counts := fibonacci(n)
		for most := 1; most <= 15; most++ {
			if n <= 1<<most {
				checkLengths(t, counts, most)
			}
		}
		if lengths, _ := bale.Lengths(counts, 15); slices.Max(lengths) != min(15, n-1) {
			t.Errorf("P4: Lengths of %d that grow: %v", n, lengths)
		}
	}
}

func TestP4LengthsOfAnyCounts(t *testing.T) {
	r := rand.New(rand.NewSource(5))
	for range 4000 {
		most := 1 + r.Intn(15)
		counts := make([]int, r.Intn(min(40, 1<<most)+1))
		bound := []int{2, 5, 50, 10000, api.MaxCount}[r.Intn(5)]
		for i := range counts {
			counts[i] = r.Intn(bound + 1)
			if r.Intn(3) == 0 {
				counts[i] >>= r.Intn(30)
			}
		}
		checkLengths(t, counts, most)
	}
}

func TestP4LengthsMakeCodes(t *testing.T) {
	r := rand.New(rand.NewSource(6))
	for range 200 {
		counts := make([]int, 320)
		for i := range counts {
			counts[i] = r.Intn(1 << r.Intn(20))
		}
		lengths, err := bale.Lengths(counts, 15)
		if err != api.OK {
			t.Fatalf("P4: Lengths(%v, 15): %d", counts, err)
		}
		if _, err := bale.Codes(lengths); err != api.OK {
			t.Fatalf("P3, P4: Codes(%v): %d", lengths, err)
		}
	}
}
