package seats

import (
	"testing"

	"seats/api"
)

// firstSale is what is locked, the pool's last, and what comes of it: the price, and how many seats each account has.
type firstSale struct {
	seats  int
	locked []int
	price  int
	got    []int
}

// checkFirstSale bids what is locked on a new chain, and looks at the first seats that are sold.
func checkFirstSale(t *testing.T, s firstSale) {
	t.Helper()
	people := len(s.locked) - 1
	x := mustNew(t, api.Config{Seats: s.seats, Delay: 2, Length: 1, Start: s.locked[:people]})
	for a := range people {
		checkBid(t, x, a, s.locked[a], api.OK)
	}
	x.accounts[people].locked = s.locked[people]
	checkNext(t, x, 0)
	supply := 0
	for a, locked := range s.locked {
		supply += locked
		want := api.Account{Locked: locked, Bid: locked, Seats: s.got[a]}
		if locked < s.price {
			want = api.Account{Queued: locked}
		}
		if a == people {
			want.Bid = 0
		}
		checkSee(t, x, a, want, api.OK)
		checkDue(t, x, a, 2, want.Queued, api.OK)
	}
	checkState(t, x, api.State{Epoch: 1, Supply: supply, Price: s.price})
}

func TestSales(t *testing.T) {
	for _, s := range []firstSale{
		// One price for all, and seats as often as it is in the stake.
		{2, []int{600, 200, 0}, 300, []int{2, 0, 0}},
		{4, []int{100, 61, 0}, 33, []int{3, 1, 0}},
		{10, []int{55, 28, 17, 9, 0}, 9, []int{6, 3, 1, 0, 0}},
		// At the price, one below it, one above it.
		{2, []int{100, 60, 60, 0}, 60, []int{1, 1, 0, 0}},
		{2, []int{100, 60, 59, 0}, 60, []int{1, 1, 0, 0}},
		{2, []int{59, 60, 100, 0}, 60, []int{0, 1, 1, 0}},
		{2, []int{100, 60, 61, 0}, 61, []int{1, 0, 1, 0}},
		// In the accounts' order until all are given, also to one who could have more.
		{3, []int{50, 50, 50, 50, 0}, 50, []int{1, 1, 1, 0, 0}},
		{3, []int{20, 20, 20, 0}, 20, []int{1, 1, 1, 0}},
		{4, []int{20, 20, 20, 0}, 10, []int{2, 2, 0, 0}},
		{5, []int{20, 20, 20, 0}, 10, []int{2, 2, 1, 0}},
		{5, []int{30, 31, 30, 0}, 15, []int{2, 2, 1, 0}},
		{3, []int{10, 40, 10, 0}, 13, []int{0, 3, 0, 0}},
		{4, []int{10, 40, 10, 0}, 10, []int{1, 3, 0, 0}},
		// The pool is an account too, and the last.
		{3, []int{20, 20, 20}, 20, []int{1, 1, 1}},
		{2, []int{20, 20, 20}, 20, []int{1, 1, 0}},
		{2, []int{10, 0, 30}, 15, []int{0, 0, 2}},
		{3, []int{40, 5, 8}, 13, []int{3, 0, 0}},
		{1, []int{0, 7}, 7, []int{0, 1}},
		{10, []int{1, 1, 1, 1, 1, 1, 4}, 1, []int{1, 1, 1, 1, 1, 1, 4}},
		{10, []int{5, 1, 1, 1, 1, 1, 4}, 1, []int{5, 1, 1, 1, 1, 1, 0}},
		// As much stake as seats, and one less: then nothing is queued either.
		{5, []int{2, 3, 0}, 1, []int{2, 3, 0}},
		{5, []int{2, 2, 0}, 0, []int{0, 0, 0}},
		{5, []int{2, 1, 1}, 0, []int{0, 0, 0}},
		{1, []int{0, 0}, 0, []int{0, 0}},
		{1, []int{1, 0}, 1, []int{1, 0}},
		{10, []int{api.MaxStart, api.MaxStart, 0}, 2000000, []int{5, 5, 0}},
	} {
		checkFirstSale(t, s)
	}
}

// What an epoch's sale gave does not help in the next.
func TestSeatsAreSoldAnew(t *testing.T) {
	x := staked(t, api.Config{Seats: 3, Delay: 2, Length: 3, Start: []int{30, 60}})
	checkSee(t, x, 0, api.Account{Locked: 30, Bid: 30, Seats: 1}, api.OK)
	checkSee(t, x, 1, api.Account{Locked: 60, Bid: 60, Seats: 2}, api.OK)
	checkBid(t, x, 1, 9, api.OK)
	checkNext(t, x, 0)
	checkState(t, x, api.State{Epoch: 2, Supply: 90, Price: 10})
	checkSee(t, x, 0, api.Account{Locked: 30, Bid: 30, Seats: 3}, api.OK)
	checkSee(t, x, 1, api.Account{Queued: 60}, api.OK)
	checkBid(t, x, 0, 2, api.OK)
	checkNext(t, x, 0)
	checkState(t, x, api.State{Epoch: 3, Supply: 90})
	checkSee(t, x, 0, api.Account{Locked: 2, Bid: 2, Queued: 28}, api.OK)
	checkSee(t, x, 1, api.Account{Liquid: 60}, api.OK)
	checkLeader(t, x, 0, 0, api.ErrNone)
	checkBid(t, x, 1, 1, api.OK)
	checkNext(t, x, 0)
	checkState(t, x, api.State{Epoch: 4, Supply: 90, Price: 1})
	checkSee(t, x, 0, api.Account{Liquid: 28, Locked: 2, Bid: 2, Seats: 2}, api.OK)
	checkSee(t, x, 1, api.Account{Liquid: 59, Locked: 1, Bid: 1, Seats: 1}, api.OK)
}

// What comes back to the pool is locked again in the same Next, and buys seats; its bid stays 0.
func TestPoolLocksWhatItHas(t *testing.T) {
	x := mustNew(t, api.Config{Seats: 2, Delay: 4, Rate: 100, Length: 2, Start: []int{10}})
	x.accounts[1] = account{liquid: 3, locked: 4, queue: [5]int{13, 60, 0, 0, 0}}
	checkNext(t, x, 0)
	checkSee(t, x, 1, api.Account{Locked: 20, Queued: 60, Seats: 2}, api.OK)
	checkState(t, x, api.State{Epoch: 1, Supply: 99, Treasury: 9, Price: 10})
	makeBlocks(t, x, 1)
	checkNext(t, x, 0)
	checkSee(t, x, 1, api.Account{Locked: 84, Seats: 2}, api.OK)
	checkState(t, x, api.State{Epoch: 2, Supply: 108, Treasury: 14, Price: 42})
	checkSee(t, x, 0, api.Account{Liquid: 10}, api.OK)
}

// The pool may be slashed and lazy as every account may, and what it had comes back and is locked.
func TestPoolLosesItsSeats(t *testing.T) {
	for _, isSlashed := range []bool{true, false} {
		x := mustNew(t, api.Config{Seats: 2, Delay: 2, Length: 1, Need: 1, Start: []int{41}})
		checkBid(t, x, 0, 41, api.OK)
		x.accounts[1].locked = 41
		checkNext(t, x, 0)
		checkLeader(t, x, 0, 1, api.OK)
		left := 41
		if isSlashed {
			checkSlash(t, x, 1, api.OK)
			left = 21
		}
		checkNext(t, x, 0)
		checkSee(t, x, 1, api.Account{Queued: left}, api.OK)
		checkDue(t, x, 1, 3, left, api.OK)
		checkSee(t, x, 0, api.Account{Locked: 41, Bid: 41, Seats: 2}, api.OK)
		checkNext(t, x, 0)
		checkState(t, x, api.State{Epoch: 3, Supply: 41 + left, Price: max(20, left)})
		checkSee(t, x, 0, api.Account{Locked: 41, Bid: 41, Seats: 1}, api.OK)
		checkSee(t, x, 1, api.Account{Locked: left, Seats: 1}, api.OK)
	}
}
