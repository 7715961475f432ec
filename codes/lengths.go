package codes

import (
	"slices"

	"bale/api"
	"bale/heap"
)

// parcel is a symbol, or some of them together (one may be there more than once), and what they weigh.
type parcel struct {
	weight  int64 // of all counts and lengths together, which may be more than 32 bits hold
	symbols []int
}

// Lengths tells the lengths, none above most, of a code that costs the least for these counts.
func Lengths(counts []int, most int) ([]int, api.Errno) {
	if len(counts) > api.MaxSymbols || slices.ContainsFunc(counts, isNoCount) || most < 1 || most > api.MaxBits {
		return nil, api.ErrNumber
	}
	singles := singleParcels(counts)
	if len(singles) > 1<<most {
		return nil, api.ErrNumber
	}
	lengths := make([]int, len(counts))
	for _, p := range chosen(singles, most) {
		for _, symbol := range p.symbols {
			lengths[symbol]++
		}
	}
	return lengths, api.OK
}

func isNoCount(count int) bool {
	return count < 0 || count > api.MaxCount
}

func singleParcels(counts []int) []parcel {
	var singles []parcel
	for symbol, count := range counts {
		if count > 0 {
			singles = append(singles, parcel{int64(count), []int{symbol}})
		}
	}
	return singles
}

// chosen tells parcels in which each symbol is as many times as its length is. This is package-merge: a row for each length, of all symbols and of the pairs of the row before; of n symbols the lightest n - 1 pairs of the last row are a complete code, and none weighs less. There are that many, since n is at most 2^most.
func chosen(singles []parcel, most int) []parcel {
	if len(singles) < 2 {
		return singles // one symbol alone would have no bits at all, but must have one
	}
	var pairs []parcel
	for range most {
		pairs = pairUp(row(singles, pairs))
	}
	return pairs[:len(singles)-1]
}

func row(singles, pairs []parcel) *heap.Heap[parcel] {
	all := heap.New(lighter)
	for _, p := range singles {
		all.Put(p)
	}
	for _, p := range pairs {
		all.Put(p)
	}
	return all
}

func lighter(a, b parcel) bool {
	return a.weight < b.weight
}

// pairUp empties a row; one that is left over at its end is in no pair.
func pairUp(all *heap.Heap[parcel]) []parcel {
	var pairs []parcel
	for {
		a, _ := all.Take()
		b, ok := all.Take()
		if !ok {
			return pairs
		}
		pairs = append(pairs, parcel{a.weight + b.weight, slices.Concat(a.symbols, b.symbols)})
	}
}
