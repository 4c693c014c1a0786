package seats

import (
	"testing"

	"seats/api"
)

// checkComesBack checks that an amount that was queued in the Next that ended epoch e comes back at e + delay, not before.
// The chain is in epoch e + 1.
func checkComesBack(t *testing.T, x *Chain, a int, amount int, liquid int, delay int) {
	t.Helper()
	end := x.epoch - 1 + delay
	for x.epoch < end {
		if s, e := x.See(a); e != api.OK || s.Queued != amount || s.Liquid != liquid {
			t.Errorf("P8: See(%d) in epoch %d, before %d = %+v, %d", a, x.epoch, end, s, e)
		}
		for epoch := x.epoch - 2; epoch < end+3; epoch++ {
			want := 0
			if epoch == end {
				want = amount
			}
			checkDue(t, x, a, epoch, want, api.OK)
		}
		checkNext(t, x, 0)
	}
	if s, e := x.See(a); e != api.OK || s.Queued != 0 || s.Liquid != liquid+amount {
		t.Errorf("P8: See(%d) in epoch %d = %+v, %d, want %d liquid", a, end, s, e, liquid+amount)
	}
	checkDue(t, x, a, end, 0, api.OK)
}

func TestWhatIsAboveTheBidComesBack(t *testing.T) {
	for delay := api.MinDelay; delay <= api.MaxDelay; delay++ {
		x := mustNew(t, api.Config{Seats: 1, Delay: delay, Length: 1, Start: []int{100}})
		checkBid(t, x, 0, 80, api.OK)
		checkBid(t, x, 0, 50, api.OK)
		checkNext(t, x, 0)
		checkSee(t, x, 0, api.Account{Liquid: 20, Locked: 50, Bid: 50, Queued: 30, Seats: 1}, api.OK)
		checkComesBack(t, x, 0, 30, 20, delay)
		checkSee(t, x, 0, api.Account{Liquid: 50, Locked: 50, Bid: 50, Seats: 1}, api.OK)
	}
}

func TestOneAboveTheBidComesBack(t *testing.T) {
	x := mustNew(t, api.Config{Seats: 1, Delay: 2, Length: 1, Start: []int{100}})
	checkBid(t, x, 0, 80, api.OK)
	checkBid(t, x, 0, 79, api.OK)
	checkNext(t, x, 0)
	checkSee(t, x, 0, api.Account{Liquid: 20, Locked: 79, Bid: 79, Queued: 1, Seats: 1}, api.OK)
	checkComesBack(t, x, 0, 1, 20, 2)
}

func TestWhatIsBelowThePriceComesBack(t *testing.T) {
	for delay := api.MinDelay; delay <= api.MaxDelay; delay++ {
		x := mustNew(t, api.Config{Seats: 1, Delay: delay, Length: 1, Start: []int{100, 90}})
		checkBid(t, x, 0, 100, api.OK)
		checkBid(t, x, 1, 80, api.OK)
		checkNext(t, x, 0)
		checkSee(t, x, 1, api.Account{Liquid: 10, Queued: 80}, api.OK)
		checkComesBack(t, x, 1, 80, 10, delay)
		checkSee(t, x, 1, api.Account{Liquid: 90}, api.OK)
	}
}

func TestWhatTheLazyHadComesBack(t *testing.T) {
	for delay := api.MinDelay; delay <= api.MaxDelay; delay++ {
		x := staked(t, api.Config{Seats: 2, Delay: delay, Length: 1, Need: 1, Start: []int{60, 70}})
		x.accounts[1].liquid = 5
		checkNext(t, x, 0)
		checkSee(t, x, 1, api.Account{Liquid: 5, Queued: 70}, api.OK)
		checkComesBack(t, x, 1, 70, 5, delay)
	}
}

func TestWhatTheSlashedHadComesBack(t *testing.T) {
	for delay := api.MinDelay; delay <= api.MaxDelay; delay++ {
		x := staked(t, api.Config{Seats: 2, Delay: delay, Length: 4, Start: []int{60, 71}})
		checkSlash(t, x, 1, api.OK)
		checkNext(t, x, 0)
		checkSee(t, x, 1, api.Account{Queued: 36}, api.OK)
		checkComesBack(t, x, 1, 36, 0, delay)
	}
}

// Amounts of several epochs wait beside one another, and those of one epoch are added.
func TestQueuedAmountsOfSeveralEpochs(t *testing.T) {
	x := mustNew(t, api.Config{Seats: 1, Delay: 5, Length: 1, Start: []int{1000}})
	checkBid(t, x, 0, 1000, api.OK)
	for _, amount := range []int{999, 997, 993, 985, 969, 937, 873} {
		checkBid(t, x, 0, amount, api.OK)
		checkNext(t, x, 0)
	}
	for k, amount := range []int{8, 16, 32, 64} {
		checkDue(t, x, 0, 8+k, amount, api.OK)
	}
	checkSee(t, x, 0, api.Account{Liquid: 7, Locked: 873, Bid: 873, Queued: 120, Seats: 1}, api.OK)
	// Above the bid and below the price, both at the end of one epoch.
	y := mustNew(t, api.Config{Seats: 1, Delay: 3, Length: 1, Start: []int{90, 100}})
	checkBid(t, y, 0, 90, api.OK)
	checkBid(t, y, 0, 20, api.OK)
	checkBid(t, y, 1, 100, api.OK)
	checkNext(t, y, 0)
	checkSee(t, y, 0, api.Account{Queued: 90}, api.OK)
	checkDue(t, y, 0, 3, 90, api.OK)
}

// What comes back at the beginning of an epoch is liquid: no seat is sold for it, but it may be bid anew.
func TestWhatComesBackMayBeBid(t *testing.T) {
	x := exampleBehindOne(t)
	checkBid(t, x, 1, 301, api.ErrFunds)
	checkNext(t, x, 0)
	checkBid(t, x, 1, 501, api.ErrFunds)
	checkBid(t, x, 1, 500, api.OK)
	checkNext(t, x, 0)
	checkSee(t, x, 1, api.Account{Locked: 500, Bid: 500, Seats: 1}, api.OK)
	checkSee(t, x, 0, api.Account{Liquid: 400, Locked: 600, Bid: 600, Seats: 1}, api.OK)
}

func TestAwaitInNoEpoch(t *testing.T) {
	for _, epochs := range edges {
		if epochs >= 1 && epochs <= api.MaxDelay {
			continue
		}
		c := account{locked: 5}
		c.await(5, epochs)
		if c != (account{locked: 5}) {
			t.Errorf("queued for %d epochs from now: %+v", epochs, c)
		}
	}
}
