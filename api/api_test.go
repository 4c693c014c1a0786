package api

import "testing"

// The document names these numbers: who stores an answer reads it by them.
func TestNumbersOfTheDocument(t *testing.T) {
	errors := []Errno{
		OK, ErrConfig, ErrName, ErrAmount, ErrFunds, ErrSmall, ErrFull,
		ErrBusy, ErrSeats, ErrFew, ErrHeight, ErrNone, ErrAgain,
	}
	for i, e := range errors {
		if int(e) != i {
			t.Errorf("error %d is %d", i, e)
		}
	}
	for _, c := range []struct {
		name      string
		got, want int
	}{
		{"MaxAccounts", MaxAccounts, 6},
		{"MaxSeats", MaxSeats, 10},
		{"MinDelay", MinDelay, 2},
		{"MaxDelay", MaxDelay, 5},
		{"MaxRate", MaxRate, 100},
		{"Whole", Whole, 1000},
		{"MaxLength", MaxLength, 20},
		{"MaxStart", MaxStart, 10000000},
		{"MaxSupply", MaxSupply, 1000000000},
		{"MaxShares", MaxShares, 1000000000},
		{"MaxStakes", MaxStakes, 16},
	} {
		if c.got != c.want {
			t.Errorf("%s is %d, want %d", c.name, c.got, c.want)
		}
	}
}
