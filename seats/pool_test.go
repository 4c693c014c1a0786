package seats

import (
	"testing"

	"seats/api"
)

// besideOne is a chain, behind its first Next with seed 0, on which account 1 and the pool have a seat each. The pool has
// 300, for which account 0 has 200 shares and account 1 has 100; it leads the even heights.
func besideOne(t *testing.T, need int) *Chain {
	t.Helper()
	x := mustNew(t, api.Config{Seats: 2, Delay: 3, Rate: 100, Cut: 100, Length: 4, Need: need, Start: []int{1000, 1000}})
	checkDeposit(t, x, 0, 200, 200, api.OK)
	checkDeposit(t, x, 1, 100, 100, api.OK)
	checkBid(t, x, 1, 300, api.OK)
	checkNext(t, x, 0)
	return x
}

func TestPoolBuysASeat(t *testing.T) {
	x := besideOne(t, 0)
	checkState(t, x, api.State{Epoch: 1, Supply: 2200, Treasury: 200, Price: 300, Shares: 300})
	checkSee(t, x, 0, api.Account{Liquid: 800, Shares: 200}, api.OK)
	checkSee(t, x, 1, api.Account{Liquid: 600, Locked: 300, Bid: 300, Seats: 1, Shares: 100}, api.OK)
	checkSee(t, x, 2, api.Account{Locked: 300, Seats: 1}, api.OK)
	checkTurns(t, x, 4, []int{2, 1})
}

// What the pool is paid is locked, its bid stays 0, and it makes all shares dearer.
func TestPoolIsPaid(t *testing.T) {
	x := besideOne(t, 1000)
	makeBlocks(t, x, 4)
	checkNext(t, x, 0)
	// 220 are new, 22 of them the treasury's, 198 are for 4 blocks.
	checkState(t, x, api.State{Epoch: 2, Supply: 2420, Treasury: 222, Price: 399, Shares: 300})
	checkSee(t, x, 1, api.Account{Liquid: 600, Locked: 399, Bid: 399, Seats: 1, Shares: 100}, api.OK)
	checkSee(t, x, 2, api.Account{Locked: 399, Seats: 1}, api.OK)
	checkLeave(t, x, 0, 100, 133, api.OK)
	checkLeave(t, x, 1, 1, 1, api.OK)
	checkDeposit(t, x, 0, 1, 0, api.ErrSmall)
	checkDeposit(t, x, 0, 10, 7, api.OK)
	checkDue(t, x, 0, 5, 133, api.OK)
	checkDue(t, x, 1, 5, 1, api.OK)
	checkSee(t, x, 0, api.Account{Liquid: 790, Queued: 133, Shares: 107}, api.OK)
	checkSee(t, x, 2, api.Account{Locked: 275, Seats: 1}, api.OK)
	checkState(t, x, api.State{Epoch: 2, Supply: 2420, Treasury: 222, Price: 399, Shares: 206})
}

// A lazy pool has all queued and nothing burnt; its shares keep their worth, but nobody can leave before it is back.
func TestPoolIsLazy(t *testing.T) {
	x := besideOne(t, 501)
	makeBlocksOf(t, x, 1, 2)
	makeBlocksOf(t, x, 2, 1)
	checkNext(t, x, 0)
	checkState(t, x, api.State{Epoch: 2, Supply: 2420, Treasury: 321, Price: 199, Shares: 300})
	checkSee(t, x, 1, api.Account{Liquid: 600, Locked: 399, Bid: 399, Seats: 2, Shares: 100}, api.OK)
	checkSee(t, x, 2, api.Account{Queued: 300}, api.OK)
	checkDue(t, x, 2, 4, 300, api.OK)
	checkLeave(t, x, 0, 1, 0, api.ErrBusy)
	checkLeave(t, x, 0, 200, 0, api.ErrBusy)
	checkDeposit(t, x, 0, 50, 50, api.OK)
	checkLeave(t, x, 0, 51, 0, api.ErrBusy)
	checkLeave(t, x, 0, 50, 50, api.OK)
	checkNext(t, x, 0)
	checkLeave(t, x, 0, 1, 0, api.ErrBusy)
	checkNext(t, x, 0)
	// Account 1 has 399 still: 399 / 2 is 199, and 300 are more.
	checkSee(t, x, 2, api.Account{Locked: 300, Seats: 1}, api.OK)
	checkLeave(t, x, 0, 200, 200, api.OK)
}

// At the need it is not lazy; nor if nobody was better; and it may be the one who was.
func TestPoolIsNotLazy(t *testing.T) {
	for _, c := range []struct {
		need, made1, made int
		want              api.Account
	}{
		{500, 2, 1, api.Account{Locked: 349, Seats: 1}},
		{501, 0, 0, api.Account{Locked: 300, Seats: 1}},
		{501, 1, 1, api.Account{Locked: 349, Seats: 1}},
		{501, 1, 2, api.Account{Locked: 399, Seats: 2}},
	} {
		x := besideOne(t, c.need)
		makeBlocksOf(t, x, 1, c.made1)
		makeBlocksOf(t, x, 2, c.made)
		checkNext(t, x, 0)
		checkSee(t, x, 2, c.want, api.OK)
		if s := x.State(); s.Supply != 2420 || s.Shares != 300 {
			t.Errorf("P8: State with %+v = %+v", c, s)
		}
	}
}

// Of a slashed pool half is burnt, and all shares are worth half; the rest is queued, comes back and is locked.
func TestPoolIsSlashed(t *testing.T) {
	x := besideOne(t, 500)
	makeBlocks(t, x, 4)
	checkSlash(t, x, 2, api.OK)
	checkNext(t, x, 0)
	// 2050 are left, 205 are new: 20 the treasury's, of 185 account 1 has earned the half, 92.
	checkState(t, x, api.State{Epoch: 2, Supply: 2255, Treasury: 313, Price: 196, Shares: 300})
	checkSee(t, x, 1, api.Account{Liquid: 600, Locked: 392, Bid: 392, Seats: 2, Shares: 100}, api.OK)
	checkSee(t, x, 2, api.Account{Queued: 150}, api.OK)
	checkDue(t, x, 2, 4, 150, api.OK)
	checkLeave(t, x, 0, 1, 0, api.ErrSmall)
	checkLeave(t, x, 0, 2, 0, api.ErrBusy)
	checkDeposit(t, x, 0, 1, 2, api.OK)
	checkLeave(t, x, 0, 4, 0, api.ErrBusy)
	checkLeave(t, x, 0, 3, 1, api.OK)
	checkState(t, x, api.State{Epoch: 2, Supply: 2255, Treasury: 313, Price: 196, Shares: 299})
	checkBid(t, x, 1, 0, api.OK)
	checkNext(t, x, 0)
	checkState(t, x, api.State{Epoch: 3, Supply: 2480, Treasury: 538, Shares: 299})
	checkNext(t, x, 0)
	checkSee(t, x, 2, api.Account{Locked: 150, Seats: 2}, api.OK)
	checkLeave(t, x, 0, 199, 99, api.OK)
	checkLeave(t, x, 1, 100, 51, api.OK)
	checkSee(t, x, 2, api.Account{Seats: 2}, api.OK)
}

// What is given behind the Slash is halved with the rest; what has left before the epoch ends is not.
func TestPoolIsSlashedOfWhatItHasLocked(t *testing.T) {
	x := besideOne(t, 0)
	checkSlash(t, x, 2, api.OK)
	checkDeposit(t, x, 0, 101, 101, api.OK)
	y := *x
	checkNext(t, x, 0)
	checkSee(t, x, 2, api.Account{Queued: 201}, api.OK)
	checkLeave(t, &y, 0, 300, 300, api.OK)
	checkNext(t, &y, 0)
	checkSee(t, &y, 0, api.Account{Liquid: 699, Queued: 300, Shares: 1}, api.OK)
	checkSee(t, &y, 2, api.Account{Queued: 51}, api.OK)
	checkLeave(t, &y, 1, 1, 0, api.ErrSmall)
}

// The smallest pool has 1 after any number of slashes, so that its shares are never of nothing.
func TestPoolSlashedManyTimes(t *testing.T) {
	x := mustNew(t, api.Config{Seats: 1, Delay: 2, Length: 1, Start: []int{10}})
	checkDeposit(t, x, 0, 10, 10, api.OK)
	checkNext(t, x, 0)
	for _, left := range []int{5, 3, 2, 1, 1, 1, 1} {
		checkSlash(t, x, 1, api.OK)
		checkNext(t, x, 0)
		checkSee(t, x, 1, api.Account{Queued: left}, api.OK)
		checkLeave(t, x, 0, 10, 0, api.ErrBusy)
		checkNext(t, x, 0)
		checkSee(t, x, 1, api.Account{Locked: left, Seats: 1}, api.OK)
	}
	checkLeave(t, x, 0, 9, 0, api.ErrSmall)
	checkLeave(t, x, 0, 10, 1, api.OK)
	checkSee(t, x, 1, api.Account{Seats: 1}, api.OK)
}

// What comes back to the pool is locked at the same Next, with what was given meanwhile; so it may have a seat at once.
func TestPoolLocksWhatComesBack(t *testing.T) {
	x := mustNew(t, api.Config{Seats: 1, Delay: 2, Length: 1, Need: 1000, Start: []int{100, 100}})
	checkBid(t, x, 0, 50, api.OK)
	checkDeposit(t, x, 1, 49, 49, api.OK)
	checkNext(t, x, 0)
	checkSee(t, x, 2, api.Account{Queued: 49}, api.OK)
	checkDue(t, x, 2, 2, 49, api.OK)
	checkDeposit(t, x, 1, 2, 2, api.OK)
	checkSee(t, x, 2, api.Account{Locked: 2, Queued: 49}, api.OK)
	checkNext(t, x, 0)
	checkSee(t, x, 2, api.Account{Locked: 51, Seats: 1}, api.OK)
	checkSee(t, x, 0, api.Account{Liquid: 50, Queued: 50}, api.OK)
	checkState(t, x, api.State{Epoch: 2, Supply: 200, Price: 51, Shares: 51})
}

// Slashed, with something due: what comes back has a seat in the same Next.
func TestPoolHasASeatAgainAtOnce(t *testing.T) {
	x := mustNew(t, api.Config{Seats: 1, Delay: 3, Length: 1, Start: []int{100, 100}})
	checkDeposit(t, x, 1, 40, 40, api.OK)
	checkBid(t, x, 0, 50, api.OK)
	checkNext(t, x, 0)
	checkDeposit(t, x, 1, 60, 60, api.OK)
	checkBid(t, x, 0, 0, api.OK)
	checkNext(t, x, 0)
	checkSee(t, x, 2, api.Account{Locked: 60, Queued: 40, Seats: 1}, api.OK)
	checkDue(t, x, 2, 3, 40, api.OK)
	checkSlash(t, x, 2, api.OK)
	checkNext(t, x, 0)
	checkSee(t, x, 2, api.Account{Locked: 40, Queued: 30, Seats: 1}, api.OK)
	checkDue(t, x, 2, 5, 30, api.OK)
	checkState(t, x, api.State{Epoch: 3, Supply: 170, Price: 40, Shares: 100})
	// 100 shares of 70, of which 40 are locked.
	checkLeave(t, x, 1, 59, 0, api.ErrBusy)
	checkLeave(t, x, 1, 58, 40, api.OK)
	checkLeave(t, x, 1, 1, 0, api.ErrSmall)
	checkLeave(t, x, 1, 2, 0, api.ErrBusy)
	// The next epochs do not slash it anew.
	checkNext(t, x, 0)
	checkNext(t, x, 0)
	checkSee(t, x, 2, api.Account{Locked: 30, Seats: 1}, api.OK)
	checkState(t, x, api.State{Epoch: 5, Supply: 170, Price: 30, Shares: 42})
}

// Of the pool nothing is lowered to its bid, which is 0; of who gave to it all is that is above.
func TestPoolIsNotLowered(t *testing.T) {
	x := mustNew(t, api.Config{Seats: 2, Delay: 2, Length: 1, Start: []int{100}})
	checkBid(t, x, 0, 50, api.OK)
	checkDeposit(t, x, 0, 50, 50, api.OK)
	for epoch := 1; epoch <= 4; epoch++ {
		checkNext(t, x, 0)
		checkSee(t, x, 0, api.Account{Locked: 50, Bid: 50, Seats: 1, Shares: 50}, api.OK)
		checkSee(t, x, 1, api.Account{Locked: 50, Seats: 1}, api.OK)
		checkState(t, x, api.State{Epoch: epoch, Supply: 100, Price: 50, Shares: 50})
	}
	checkBid(t, x, 0, 0, api.OK)
	checkNext(t, x, 0)
	checkSee(t, x, 0, api.Account{Queued: 50, Shares: 50}, api.OK)
	checkSee(t, x, 1, api.Account{Locked: 50, Seats: 2}, api.OK)
}

// The pool is the last in the order of those who buy: all seats may be gone, though it has the price.
func TestPoolIsTheLast(t *testing.T) {
	x := mustNew(t, api.Config{Seats: 2, Delay: 2, Rate: 100, Length: 2, Start: []int{20, 40}})
	checkBid(t, x, 0, 20, api.OK)
	checkBid(t, x, 1, 20, api.OK)
	checkDeposit(t, x, 1, 20, 20, api.OK)
	checkNext(t, x, 0)
	checkTurns(t, x, 2, []int{1, 0})
	checkSee(t, x, 2, api.Account{Locked: 20}, api.OK)
	checkSlash(t, x, 2, api.ErrNone)
	makeBlocks(t, x, 2)
	checkNext(t, x, 0)
	checkSee(t, x, 2, api.Account{Queued: 20}, api.OK)
	checkState(t, x, api.State{Epoch: 2, Supply: 72, Treasury: 6, Price: 23, Shares: 20})
}

// With less than the price all that it has is queued, and again whenever it comes back, until it is enough.
func TestPoolBelowThePrice(t *testing.T) {
	x := mustNew(t, api.Config{Seats: 1, Delay: 3, Length: 1, Start: []int{100, 100}})
	checkBid(t, x, 0, 60, api.OK)
	checkDeposit(t, x, 1, 59, 59, api.OK)
	checkNext(t, x, 0)
	for _, due := range []int{3, 3, 5, 5, 7, 7} {
		checkSee(t, x, 2, api.Account{Queued: 59}, api.OK)
		checkDue(t, x, 2, due, 59, api.OK)
		checkLeave(t, x, 1, 1, 0, api.ErrBusy)
		checkNext(t, x, 0)
	}
	checkDeposit(t, x, 1, 1, 1, api.OK)
	checkSee(t, x, 2, api.Account{Locked: 1, Queued: 59}, api.OK)
	checkNext(t, x, 0)
	checkSee(t, x, 2, api.Account{Queued: 60}, api.OK)
	checkNext(t, x, 0)
	// 59 come back and are queued anew; the 1 was queued an epoch later.
	checkDue(t, x, 2, 10, 1, api.OK)
	checkDue(t, x, 2, 11, 59, api.OK)
	checkState(t, x, api.State{Epoch: 9, Supply: 200, Price: 60, Shares: 60})
}

// All may leave a pool that has a seat: it keeps it, and is paid; the pay belongs to whoever gives next.
func TestPoolThatAllHaveLeft(t *testing.T) {
	x := mustNew(t, api.Config{Seats: 1, Delay: 2, Rate: 100, Length: 1, Need: 1000, Start: []int{1000, 1000}})
	checkDeposit(t, x, 0, 100, 100, api.OK)
	checkNext(t, x, 0)
	checkLeave(t, x, 0, 100, 100, api.OK)
	checkSee(t, x, 2, api.Account{Seats: 1}, api.OK)
	checkState(t, x, api.State{Epoch: 1, Supply: 2200, Treasury: 200, Price: 100})
	makeBlocks(t, x, 1)
	checkNext(t, x, 0)
	checkSee(t, x, 2, api.Account{Locked: 220, Seats: 1}, api.OK)
	checkState(t, x, api.State{Epoch: 2, Supply: 2420, Treasury: 200, Price: 220})
	checkDeposit(t, x, 1, 10, 10, api.OK)
	checkDeposit(t, x, 0, 22, 0, api.ErrSmall)
	checkDeposit(t, x, 0, 23, 1, api.OK)
	checkLeave(t, x, 1, 10, 230, api.OK)
	checkLeave(t, x, 0, 1, 23, api.OK)
	checkSee(t, x, 2, api.Account{Seats: 1}, api.OK)
}

// A seat without a stake can be lost as every other, though there is nothing to burn and nothing to queue.
func TestPoolThatAllHaveLeftIsSlashed(t *testing.T) {
	x := mustNew(t, api.Config{Seats: 1, Delay: 2, Rate: 100, Length: 1, Start: []int{1000}})
	checkDeposit(t, x, 0, 100, 100, api.OK)
	checkNext(t, x, 0)
	checkLeave(t, x, 0, 100, 100, api.OK)
	makeBlocks(t, x, 1)
	checkSlash(t, x, 1, api.OK)
	checkNext(t, x, 0)
	checkSee(t, x, 0, api.Account{Liquid: 900, Queued: 100}, api.OK)
	checkSee(t, x, 1, api.Account{}, api.OK)
	checkState(t, x, api.State{Epoch: 2, Supply: 1210, Treasury: 210})
	checkSlash(t, x, 1, api.ErrNone)
}

// Who leaves takes stake away before the next sale, and who gives brings it. Account 1 has 300 there.
func TestPoolGrowsAndShrinksBeforeTheSale(t *testing.T) {
	for _, c := range []struct{ gives, leaves, seats, price int }{
		{0, 0, 1, 300}, {300, 0, 1, 300}, {301, 0, 1, 300}, {302, 0, 2, 301}, {800, 0, 2, 550},
		{0, 1, 1, 299}, {0, 149, 1, 151}, {0, 150, 0, 150}, {0, 151, 0, 150}, {0, 200, 0, 150}, {10, 20, 1, 290},
	} {
		x := besideOne(t, 0)
		if c.gives > 0 {
			checkDeposit(t, x, 0, c.gives, c.gives, api.OK)
		}
		if c.leaves > 0 {
			checkLeave(t, x, 0, c.leaves, c.leaves, api.OK)
		}
		has := 300 + c.gives - c.leaves
		checkNext(t, x, 0)
		want := api.Account{Locked: has, Seats: c.seats}
		if has < c.price {
			want = api.Account{Queued: has}
		}
		checkSee(t, x, 2, want, api.OK)
		checkDue(t, x, 0, 4, c.leaves, api.OK)
		checkState(t, x, api.State{Epoch: 2, Supply: 2420, Treasury: 420, Price: c.price, Shares: has})
	}
}

// At the greatest supply the pool is paid what there is room for, and then nothing more.
func TestPoolAtTheGreatestSupply(t *testing.T) {
	for _, room := range []int{0, 1, 2, 3, 100} {
		x := besideOne(t, 0)
		x.rules.cut = 0
		x.treasury += api.MaxSupply - 2200 - room
		makeBlocks(t, x, 4)
		checkNext(t, x, 0)
		paid := room * 2 / 4
		checkSee(t, x, 2, api.Account{Locked: 300 + paid, Seats: 1}, api.OK)
		if s := x.State(); s.Supply != api.MaxSupply || s.Shares != 300 {
			t.Errorf("P8: State with room %d = %+v", room, s)
		}
		makeBlocks(t, x, 4)
		checkNext(t, x, 0)
		checkSee(t, x, 2, api.Account{Locked: 300 + paid, Seats: 1}, api.OK)
		checkLeave(t, x, 0, 200, 200*(300+paid)/300, api.OK)
	}
}

// A pool that has all there may be: the greatest stake, the greatest worth.
func TestPoolThatHasEverything(t *testing.T) {
	x := mustNew(t, api.Config{Seats: 10, Delay: 5, Rate: 100, Length: 20, Need: 1000, Start: []int{0}})
	x.accounts[0].liquid = api.MaxSupply
	checkDeposit(t, x, 0, api.MaxSupply, api.MaxShares, api.OK)
	checkNext(t, x, 0)
	checkSee(t, x, 1, api.Account{Locked: api.MaxSupply, Seats: 10}, api.OK)
	checkState(t, x, api.State{Epoch: 1, Supply: api.MaxSupply, Price: api.MaxSupply / 10, Shares: api.MaxShares})
	makeBlocks(t, x, 20)
	checkSlash(t, x, 1, api.OK)
	checkNext(t, x, 0)
	checkSee(t, x, 1, api.Account{Queued: api.MaxSupply / 2}, api.OK)
	checkState(t, x, api.State{Epoch: 2, Supply: 550000000, Treasury: 50000000, Shares: api.MaxShares})
	checkLeave(t, x, 0, 1, 0, api.ErrSmall)
	checkLeave(t, x, 0, api.MaxShares, 0, api.ErrBusy)
	for range 4 {
		checkNext(t, x, 0)
	}
	checkLeave(t, x, 0, api.MaxShares, api.MaxSupply/2, api.OK)
	checkDue(t, x, 0, 11, api.MaxSupply/2, api.OK)
}

// The pool stands behind the last account, be there one or six.
func TestPoolOfEveryNumberOfAccounts(t *testing.T) {
	for people := 1; people <= api.MaxAccounts; people++ {
		x := mustNew(t, api.Config{Seats: 1, Delay: 2, Rate: 100, Length: 1, Start: same(people, 1000)})
		for a := range people {
			checkDeposit(t, x, a, 10+a, 10+a, api.OK)
		}
		all := x.State().Shares
		checkNext(t, x, 0)
		checkSee(t, x, people, api.Account{Locked: all, Seats: 1}, api.OK)
		checkLeader(t, x, 0, people, api.OK)
		makeBlocks(t, x, 1)
		checkNext(t, x, 0)
		checkSee(t, x, people, api.Account{Locked: all + people*110, Seats: 1}, api.OK)
		for a := range people {
			checkSee(t, x, a, api.Account{Liquid: 990 - a, Shares: 10 + a}, api.OK)
			checkDue(t, x, a, 4, 0, api.OK)
		}
		checkLeave(t, x, people-1, 9+people, (9+people)*(all+people*110)/all, api.OK)
	}
}

func TestPoolOnOneChainAlone(t *testing.T) {
	x := besideOne(t, 0)
	y := besideOne(t, 0)
	before := *y
	checkDeposit(t, x, 0, 60, 60, api.OK)
	checkChain(t, "P2", y, before)
	checkLeave(t, x, 1, 100, 100, api.OK)
	checkChain(t, "P2", y, before)
	checkNext(t, x, 0)
	checkChain(t, "P2", y, before)
	checkLeave(t, y, 0, 200, 200, api.OK)
	checkSee(t, x, 0, api.Account{Liquid: 740, Shares: 260}, api.OK)
	checkSee(t, x, 2, api.Account{Locked: 260, Seats: 1}, api.OK)
	checkSee(t, y, 2, api.Account{Locked: 100, Seats: 1}, api.OK)
}
