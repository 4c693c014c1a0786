package seats

import "seats/api"

// mayBeSold tells whether the stakes and the number of seats are within their bounds.
func mayBeSold(stakes []int, n int) bool {
	if !within(n, 1, api.MaxSeats) || len(stakes) > api.MaxStakes {
		return false
	}
	for _, stake := range stakes {
		if !within(stake, 0, api.MaxSupply) {
			return false
		}
	}
	return true
}

// sellsOut tells whether the stakes buy n seats or more at the price p.
func sellsOut(stakes []int, p int, n int) bool {
	// No seat is sold below 1; so the division is safe whoever calls.
	if p < 1 {
		return false
	}
	sold := 0
	for _, stake := range stakes {
		sold += stake / p
	}
	return sold >= n
}

// greatestPrice halves the prices between one that sells out and one that does not: a higher price never sells more.
// The stakes must be within their bounds and sell out at 1.
func greatestPrice(stakes []int, n int) int {
	good := 1
	// Above every stake there may be: nothing is sold at this price.
	bad := api.MaxSupply + 1
	for bad-good > 1 {
		middle := good + (bad-good)/2
		if sellsOut(stakes, middle, n) {
			good = middle
		} else {
			bad = middle
		}
	}
	return good
}
