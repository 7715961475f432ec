package bale_test

import (
	"slices"
	"sync"
	"testing"

	"bale/api"
	"bale/bale"
)

// listCall is a call that takes a list and answers one.
type listCall struct {
	name string
	call func([]int) ([]int, api.Errno)
	good [][]int
	bad  [][]int
}

func listCalls() []listCall {
	most := func(most int) func([]int) ([]int, api.Errno) {
		return func(counts []int) ([]int, api.Errno) { return bale.Lengths(counts, most) }
	}
	return []listCall{
		{"Codes", bale.Codes,
			[][]int{nil, {}, {0}, {0, 0}, {1}, {3, 3, 3, 3, 3, 2, 4, 4}, {0, 1, 1}, repeat(256, 8), repeat(320, 15)},
			[][]int{{1, 1, 1}, {16, 1}, {3, -1}, repeat(321, 1)}},
		{"Lengths most 15", most(15),
			[][]int{nil, {}, {0}, {0, 0}, {9}, {5, 9}, {4, 2, 1, 1, 0}, fibonacci(40), repeat(320, 7)},
			[][]int{{-1, 3}, {3, 1000000001}, repeat(321, 0)}},
		{"Lengths most 2", most(2),
			[][]int{{4, 2, 1, 1, 0}, {4, 2, 1}, {0, 0, 7}},
			[][]int{{5, 4, 3, 2, 1}, {1, 2, -3}}},
	}
}

// roomy is the list with spare room behind it, and all of that memory.
func roomy(list []int) (given, all []int) {
	all = append(slices.Clone(list), 71, 72, 73, 74, 75, 76)
	return all[:len(list)], all
}

// spoil writes over a list and its spare room.
func spoil(list []int) {
	list = list[:cap(list)]
	for i := range list {
		list[i] = -77 - i
	}
}

func TestP2ListsHandedInAreUnchanged(t *testing.T) {
	for _, c := range listCalls() {
		for _, list := range slices.Concat(c.good, c.bad) {
			given, all := roomy(list)
			before := slices.Clone(all)
			c.call(given)
			if !slices.Equal(all, before) {
				t.Errorf("P2: %s has changed %v to %v", c.name, before, all)
			}
		}
	}
}

func TestP2ListsThatComeOutAreNewMemory(t *testing.T) {
	for _, c := range listCalls() {
		for _, list := range c.good {
			given, all := roomy(list)
			before := slices.Clone(all)
			first, _ := c.call(given)
			second, err := c.call(given)
			kept := slices.Clone(second)
			if err != api.OK || !slices.Equal(first, second) {
				t.Fatalf("P2: %s(%v) = %v and then %v, %d", c.name, list, first, second, err)
			}
			spoil(first)
			third, _ := c.call(given)
			if !slices.Equal(second, kept) || !slices.Equal(third, kept) {
				t.Errorf("P2: %s(%v): what came out later is %v and %v, was %v", c.name, list, second, third, kept)
			}
			spoil(third)
			if !slices.Equal(second, kept) {
				t.Errorf("P2: %s(%v): what came out before is %v, was %v", c.name, list, second, kept)
			}
			if !slices.Equal(all, before) {
				t.Errorf("P2: %s(%v): what came out is what was handed in: %v", c.name, list, all)
			}
		}
	}
}

func TestP2ListsHandedInAreNotKept(t *testing.T) {
	for _, c := range listCalls() {
		for _, list := range c.good {
			given, _ := roomy(list)
			out, _ := c.call(given)
			kept := slices.Clone(out)
			spoil(given)
			if !slices.Equal(out, kept) {
				t.Errorf("P2: %s(%v): what came out was %v and is %v", c.name, list, kept, out)
			}
		}
	}
}

func TestP1WithAnErrorNothingComesOut(t *testing.T) {
	for _, c := range listCalls() {
		for _, list := range c.bad {
			if out, err := c.call(list); err == api.OK || len(out) != 0 {
				t.Errorf("P1: %s(%.20v) = %v, %d", c.name, list, out, err)
			}
		}
	}
}

func TestP2AnswersHangOnArgumentsAlone(t *testing.T) {
	type answer struct {
		out []int
		err api.Errno
	}
	calls := listCalls()
	ask := func() []answer {
		var answers []answer
		for _, c := range calls {
			for _, list := range slices.Concat(c.bad, c.good) {
				out, err := c.call(list)
				answers = append(answers, answer{out, err})
			}
		}
		return answers
	}
	want := ask()
	var all [8][]answer
	var wait sync.WaitGroup
	for i := range all {
		wait.Go(func() { all[i] = ask() })
	}
	wait.Wait()
	for _, got := range all {
		if !slices.EqualFunc(got, want, func(a, b answer) bool { return a.err == b.err && slices.Equal(a.out, b.out) }) {
			t.Errorf("P2: asked again, the calls answer %v, not %v", got, want)
		}
	}
}
