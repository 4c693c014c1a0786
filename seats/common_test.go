package seats

import (
	"math"
	"slices"
	"testing"

	"seats/api"
)

// edges are the numbers at which a bound of the document or of the machine lies, with their neighbours.
var edges = []int{
	math.MinInt, math.MinInt + 1, math.MinInt32 - 1, math.MinInt32, -api.MaxSupply - 1, -api.MaxSupply, -2, -1,
	0, 1, 2, 3, 4, 5, 6, 7, 9, 10, 11, 15, 16, 17, 19, 20, 21, 99, 100, 101, 500, 501, 999, 1000, 1001,
	api.MaxStart - 1, api.MaxStart, api.MaxStart + 1, api.MaxSupply - 1, api.MaxSupply, api.MaxSupply + 1,
	math.MaxInt32, math.MaxInt32 + 1, math.MaxUint32, math.MaxUint32 + 1, math.MaxInt - 1, math.MaxInt,
}

// example is the config of the document's second example.
func example() api.Config {
	return api.Config{Seats: 2, Delay: 2, Rate: 100, Cut: 100, Length: 10, Need: 500, Start: []int{1000, 500}}
}

func mustNew(t *testing.T, c api.Config) *Chain {
	t.Helper()
	x, e := New(c)
	if x == nil || e != api.OK {
		t.Fatalf("New(%+v) = %v, %d, want a chain", c, x, e)
	}
	return x
}

// same makes a list of so many entries, all alike.
func same(count int, value int) []int {
	return slices.Repeat([]int{value}, count)
}

// behind is the list with spare room behind it, and all of that room.
func behind(list []int) ([]int, []int) {
	all := append(slices.Clone(list), 71, 72, 73, 74)
	return all[:len(list)], all
}

// busy is a chain in which every amount that can be seen is another one, so that no two can be mixed up.
func busy(t *testing.T) *Chain {
	c := example()
	c.Start = []int{1, 2, 3}
	x := mustNew(t, c)
	x.epoch = 7
	x.treasury = 5000000
	x.price = 41
	x.accounts[0] = account{liquid: 10, locked: 20, bid: 30, seats: 1, shares: 40, queue: [5]int{1, 2, 3, 4, 5}}
	x.accounts[1] = account{liquid: 100, locked: 200, bid: 300, seats: 2, shares: 400, queue: [5]int{0, 0, 0, 0, 60}}
	x.accounts[2] = account{liquid: 1000, locked: 2000, bid: 3000, seats: 3, shares: 4000, queue: [5]int{70, 0, 0, 0, 0}}
	x.accounts[3] = account{liquid: 10000, locked: 20000, seats: 4, queue: [5]int{0, 800, 0, 900, 0}}
	return x
}
