package seats

import (
	"math"
	"testing"

	"seats/api"
)

// oneSeatEach is a chain whose accounts have one seat each, but the last, which has the others.
func oneSeatEach(t *testing.T, people int, seats int, length int, seed int) *Chain {
	t.Helper()
	x := mustNew(t, api.Config{Seats: seats, Delay: 2, Length: length, Start: same(people, 100)})
	for a := range people {
		amount := 10
		if a == people-1 {
			amount = 10 * (seats - people + 1)
		}
		checkBid(t, x, a, amount, api.OK)
	}
	checkNext(t, x, seed)
	return x
}

func checkLeader(t *testing.T, x *Chain, height int, want int, err api.Errno) {
	t.Helper()
	if a, e := x.Leader(height); a != want || e != err {
		t.Errorf("P9: Leader(%d) = %d, %d, want %d, %d", height, a, e, want, err)
	}
}

// checkTurns checks that the leaders of all heights are these, over and over, and that there are no other heights.
func checkTurns(t *testing.T, x *Chain, length int, row []int) {
	t.Helper()
	for height := range length {
		checkLeader(t, x, height, row[height%len(row)], api.OK)
	}
	for _, height := range append([]int{length, length + 1}, edges...) {
		if height < 0 || height >= length {
			checkLeader(t, x, height, 0, api.ErrHeight)
		}
	}
}

func TestTurnsOfTheExample(t *testing.T) {
	checkTurns(t, oneSeatEach(t, 2, 2, 4, 0), 4, []int{1, 0})
}

// The rows were worked out apart from the program. Every seed that is the same modulo 2147483648 gives the same row.
func TestTurnsOfManySeeds(t *testing.T) {
	for _, s := range []struct {
		seeds     []int
		four, ten []int
	}{
		{[]int{0, 1 << 31, -1 << 31, 1 << 32, 1 << 62, -1 << 62, math.MinInt}, []int{1, 2, 3, 0}, []int{5, 5, 5, 1, 2, 5, 5, 4, 3, 0}},
		{[]int{1, 1<<31 + 1, 1 - 1<<31, math.MinInt + 1}, []int{0, 3, 1, 2}, []int{5, 3, 0, 4, 2, 5, 5, 1, 5, 5}},
		{[]int{2, 1<<31 + 2, math.MinInt + 2}, []int{3, 1, 2, 0}, []int{5, 3, 5, 4, 0, 1, 5, 5, 2, 5}},
		{[]int{-1, 1<<31 - 1, -1 - 1<<31, 1<<32 - 1, math.MaxInt}, []int{3, 0, 2, 1}, []int{4, 3, 2, 0, 5, 1, 5, 5, 5, 5}},
		{[]int{-2, 1<<31 - 2, -2 - 1<<31, math.MaxInt - 1}, []int{1, 2, 0, 3}, []int{1, 5, 4, 5, 5, 5, 2, 0, 3, 5}},
		{[]int{12345, 12345 - 1<<31}, []int{3, 2, 1, 0}, []int{3, 4, 2, 5, 0, 1, 5, 5, 5, 5}},
		{[]int{1000000000, 1000000000 - 1<<31}, []int{1, 3, 2, 0}, []int{5, 0, 5, 1, 3, 2, 5, 4, 5, 5}},
	} {
		for _, seed := range s.seeds {
			checkTurns(t, oneSeatEach(t, 4, 4, 20, seed), 20, s.four)
			checkTurns(t, oneSeatEach(t, 6, 10, 20, seed), 20, s.ten)
		}
	}
}

// The pool is the last of the row before it is shuffled.
func TestTurnsOfThePool(t *testing.T) {
	x := mustNew(t, api.Config{Seats: 10, Delay: 2, Length: 11, Start: same(6, 10)})
	for a := range 6 {
		checkBid(t, x, a, 10, api.OK)
	}
	x.accounts[6].locked = 40
	checkNext(t, x, 0)
	checkTurns(t, x, 11, []int{6, 5, 6, 1, 2, 6, 6, 4, 3, 0})
}

func TestTurnsOfOneSeat(t *testing.T) {
	for _, seed := range edges {
		checkTurns(t, oneSeatEach(t, 1, 1, 3, seed), 3, []int{0})
	}
}

// Fewer heights than seats, as many, and more.
func TestTurnsOfEveryLength(t *testing.T) {
	for length := 1; length <= api.MaxLength; length++ {
		checkTurns(t, oneSeatEach(t, 6, 10, length, 1), length, []int{5, 3, 0, 4, 2, 5, 5, 1, 5, 5})
	}
}

// Who has locked too little for a seat is not in the row.
func TestTurnsOfThoseWithASeat(t *testing.T) {
	x := mustNew(t, api.Config{Seats: 4, Delay: 2, Length: 8, Start: []int{1, 30, 0, 10}})
	for a, amount := range []int{1, 30, 0, 10} {
		checkBid(t, x, a, amount, api.OK)
	}
	checkNext(t, x, 0)
	checkTurns(t, x, 8, []int{1, 1, 3, 1})
}

// A row does not hang on those before it, and Leader does not change it.
func TestTurnsAreDrawnAnew(t *testing.T) {
	x := oneSeatEach(t, 4, 4, 20, 1)
	checkTurns(t, x, 20, []int{0, 3, 1, 2})
	checkTurns(t, x, 20, []int{0, 3, 1, 2})
	for _, seed := range []int{7, -7, 12345, 0} {
		checkNext(t, x, seed)
	}
	checkTurns(t, x, 20, []int{1, 2, 3, 0})
	for a := range 3 {
		checkBid(t, x, a, 0, api.OK)
	}
	checkNext(t, x, 1)
	checkTurns(t, x, 20, []int{3})
	checkBid(t, x, 3, 0, api.OK)
	checkNext(t, x, 1)
	checkLeader(t, x, 0, 0, api.ErrNone)
	checkLeader(t, x, 19, 0, api.ErrNone)
}

// Of two errors ErrHeight is named first.
func TestLeaderIfNobodyHasASeat(t *testing.T) {
	for length := 1; length <= api.MaxLength; length++ {
		x := mustNew(t, api.Config{Seats: 3, Delay: 2, Length: length, Start: []int{9, 9}})
		for range 3 {
			before := *x
			for _, height := range append([]int{length - 1, length}, edges...) {
				if height >= 0 && height < length {
					checkLeader(t, x, height, 0, api.ErrNone)
				} else {
					checkLeader(t, x, height, 0, api.ErrHeight)
				}
			}
			checkChain(t, "P9", x, before)
			checkNext(t, x, 5)
		}
	}
}
