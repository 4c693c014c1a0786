package seats

import "seats/api"

// rules is what a chain was made with, but for Start, which becomes the accounts' at once.
type rules struct {
	seats, delay, rate, cut, length, need int
}

// rulesOf takes the numbers alone: the list stays its owner's.
func rulesOf(c api.Config) rules {
	return rules{
		seats:  c.Seats,
		delay:  c.Delay,
		rate:   c.Rate,
		cut:    c.Cut,
		length: c.Length,
		need:   c.Need,
	}
}

// within tells whether v is low to high, both ends with it.
func within(v int, low int, high int) bool {
	return v >= low && v <= high
}

// numbersFit tells whether all of a config but Start is within its bounds.
func numbersFit(c api.Config) bool {
	return within(c.Seats, 1, api.MaxSeats) &&
		within(c.Delay, api.MinDelay, api.MaxDelay) &&
		within(c.Rate, 0, api.MaxRate) &&
		within(c.Cut, 0, api.Whole) &&
		within(c.Length, 1, api.MaxLength) &&
		within(c.Need, 0, api.Whole)
}

// startFits tells whether a chain may begin with these amounts.
func startFits(start []int) bool {
	if !within(len(start), 1, api.MaxAccounts) {
		return false
	}
	for _, amount := range start {
		if !within(amount, 0, api.MaxStart) {
			return false
		}
	}
	return true
}
