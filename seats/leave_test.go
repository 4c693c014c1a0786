package seats

import (
	"math"
	"testing"

	"seats/api"
)

func checkLeave(t *testing.T, x *Chain, a int, shares int, want int, err api.Errno) {
	t.Helper()
	if worth, e := x.Leave(a, shares); worth != want || e != err {
		t.Errorf("P11: Leave(%d, %d) = %d, %d, want %d, %d", a, shares, worth, e, want, err)
	}
}

func TestLeaveOfTheExample(t *testing.T) {
	x := mustNew(t, example())
	checkDeposit(t, x, 1, 100, 100, api.OK)
	checkLeave(t, x, 1, 30, 30, api.OK)
	checkDue(t, x, 1, 2, 30, api.OK)
	checkLeave(t, x, 1, 71, 0, api.ErrFunds)
	checkSee(t, x, 1, api.Account{Liquid: 400, Queued: 30, Shares: 70}, api.OK)
	checkSee(t, x, 2, api.Account{Locked: 70}, api.OK)
	checkState(t, x, api.State{Supply: 1500, Shares: 70})
	checkLeave(t, x, 1, 70, 70, api.OK)
	checkLeave(t, x, 1, 1, 0, api.ErrFunds)
	checkDue(t, x, 1, 2, 100, api.OK)
	checkSee(t, x, 2, api.Account{}, api.OK)
	checkState(t, x, api.State{Supply: 1500})
}

// What shares are worth is rounded down, and all counts that the pool has; but it is taken from what is locked.
func TestLeaveIsWorth(t *testing.T) {
	for _, l := range []struct {
		pool       account
		all        int
		shares     int
		worth      int
		err        api.Errno
		poolLocked int
	}{
		{account{locked: 150}, 100, 1, 1, api.OK, 149},
		{account{locked: 150}, 100, 2, 3, api.OK, 147},
		{account{locked: 150}, 100, 3, 4, api.OK, 146},
		{account{locked: 150}, 100, 99, 148, api.OK, 2},
		{account{locked: 150}, 100, 100, 150, api.OK, 0},
		{account{locked: 50}, 100, 1, 0, api.ErrSmall, 50},
		{account{locked: 50}, 100, 2, 1, api.OK, 49},
		{account{locked: 50}, 100, 3, 1, api.OK, 49},
		{account{locked: 99}, 100, 1, 0, api.ErrSmall, 99},
		{account{locked: 99}, 100, 2, 1, api.OK, 98},
		{account{locked: 1}, 100, 99, 0, api.ErrSmall, 1},
		{account{locked: 1}, 100, 100, 1, api.OK, 0},
		{account{locked: 100}, 1, 1, 100, api.OK, 0},
		{account{queue: [5]int{1, 0, 0, 0, 49}}, 100, 1, 0, api.ErrSmall, 0},
		// Just what is locked, and one more.
		{account{locked: 50, queue: [5]int{0, 50, 0, 0, 0}}, 100, 50, 50, api.OK, 0},
		{account{locked: 50, queue: [5]int{0, 50, 0, 0, 0}}, 100, 51, 0, api.ErrBusy, 50},
		{account{locked: 50, liquid: 50}, 100, 50, 50, api.OK, 0},
		{account{locked: 50, liquid: 50}, 100, 51, 0, api.ErrBusy, 50},
		{account{locked: 50, liquid: 20, queue: [5]int{2, 4, 6, 8, 10}}, 100, 50, 50, api.OK, 0},
		{account{locked: 50, liquid: 20, queue: [5]int{2, 4, 6, 8, 10}}, 100, 51, 0, api.ErrBusy, 50},
		{account{locked: 50, liquid: 20, queue: [5]int{2, 4, 6, 8, 10}}, 100, 100, 0, api.ErrBusy, 50},
		{account{locked: 1, queue: [5]int{99, 0, 0, 0, 0}}, 100, 1, 1, api.OK, 0},
		{account{locked: 1, queue: [5]int{99, 0, 0, 0, 0}}, 100, 2, 0, api.ErrBusy, 1},
		{account{queue: [5]int{0, 0, 100, 0, 0}}, 100, 1, 0, api.ErrBusy, 0},
		{account{liquid: 100}, 100, 1, 0, api.ErrBusy, 0},
		// Of 30 shares of 100: 14 are worth 46, 15 are 50, 16 are 53.
		{account{locked: 46, liquid: 54}, 30, 14, 46, api.OK, 0},
		{account{locked: 45, liquid: 55}, 30, 14, 0, api.ErrBusy, 45},
		{account{locked: 53, liquid: 47}, 30, 16, 53, api.OK, 0},
		{account{locked: 52, liquid: 48}, 30, 16, 0, api.ErrBusy, 52},
	} {
		x := pooled(t, l.pool, l.all)
		want := *x
		checkLeave(t, x, 0, l.shares, l.worth, l.err)
		if l.err == api.OK {
			want.accounts[0].shares -= l.shares
			want.accounts[0].queue[1] = l.worth
			want.accounts[2].locked = l.poolLocked
		}
		checkChain(t, "P11", x, want)
	}
}

// The shares of all accounts are one sum, and nothing but what was named changes.
func TestLeaveBesideOtherShares(t *testing.T) {
	x := busy(t)
	want := *x
	// 4440 shares of 31700, of which 20000 are locked.
	checkLeave(t, x, 2, 2802, 0, api.ErrBusy)
	checkLeave(t, x, 2, 4000, 0, api.ErrBusy)
	checkLeave(t, x, 0, 41, 0, api.ErrFunds)
	checkChain(t, "P1", x, want)
	checkLeave(t, x, 2, 2801, 19998, api.OK)
	want.accounts[2].shares = 1199
	want.accounts[2].queue[1] = 19998
	want.accounts[3].locked = 2
	checkChain(t, "P11", x, want)
	checkDue(t, x, 2, 9, 19998, api.OK)
	checkState(t, x, api.State{Epoch: 7, Supply: 5035175, Treasury: 5000000, Price: 41, Shares: 1639})
	checkLeave(t, x, 0, 1, 0, api.ErrBusy)
}

// Who has one share less than all of a pool that has 1 gets nothing for them; who has all gets it.
func TestLeaveOfSharesThatAreWorthNothing(t *testing.T) {
	x := pooled(t, account{locked: 1}, 99)
	x.accounts[1].shares = 1
	before := *x
	checkLeave(t, x, 0, 99, 0, api.ErrSmall)
	checkLeave(t, x, 1, 1, 0, api.ErrSmall)
	checkChain(t, "P1", x, before)
	x.accounts[2].locked = 2
	checkLeave(t, x, 0, 50, 1, api.OK)
	checkLeave(t, x, 0, 49, 0, api.ErrSmall)
	checkLeave(t, x, 1, 1, 0, api.ErrSmall)
}

func TestLeaveAllOneHas(t *testing.T) {
	x := mustNew(t, example())
	checkDeposit(t, x, 0, 80, 80, api.OK)
	checkDeposit(t, x, 1, 120, 120, api.OK)
	checkLeave(t, x, 0, 81, 0, api.ErrFunds)
	checkLeave(t, x, 0, 80, 80, api.OK)
	checkLeave(t, x, 0, 1, 0, api.ErrFunds)
	checkLeave(t, x, 1, 121, 0, api.ErrFunds)
	checkLeave(t, x, 1, 120, 120, api.OK)
	checkLeave(t, x, 1, 1, 0, api.ErrFunds)
	checkSee(t, x, 0, api.Account{Liquid: 920, Queued: 80}, api.OK)
	checkSee(t, x, 1, api.Account{Liquid: 380, Queued: 120}, api.OK)
	checkState(t, x, api.State{Supply: 1500})
}

// All but one share are worth all but one, rounded down; the last is worth it.
func TestLeaveTheMostShares(t *testing.T) {
	for _, has := range []int{2, 3, api.MaxSupply / 2, api.MaxSupply - 1, api.MaxSupply} {
		x := pooled(t, account{locked: has}, api.MaxShares)
		x.accounts[0].liquid = 0
		checkLeave(t, x, 0, api.MaxShares+1, 0, api.ErrAmount)
		y := *x
		checkLeave(t, x, 0, api.MaxShares, has, api.OK)
		checkSee(t, x, 0, api.Account{Queued: has}, api.OK)
		checkSee(t, x, 2, api.Account{}, api.OK)
		checkState(t, x, api.State{Supply: has})
		checkLeave(t, &y, 0, api.MaxShares-1, has-1, api.OK)
		checkSee(t, &y, 2, api.Account{Locked: 1}, api.OK)
		checkLeave(t, &y, 0, 1, 1, api.OK)
		checkSee(t, &y, 0, api.Account{Queued: has}, api.OK)
	}
}

func TestLeaveOfNoAccount(t *testing.T) {
	for people := 1; people <= api.MaxAccounts; people++ {
		c := example()
		c.Start = same(people, 50)
		x := mustNew(t, c)
		checkDeposit(t, x, people-1, 50, 50, api.OK)
		before := *x
		for _, a := range append([]int{people, people + 1}, edges...) {
			if a >= 0 && a < people {
				continue
			}
			for _, shares := range []int{math.MinInt, -1, 0, 1, 50, 51, api.MaxShares, api.MaxShares + 1, math.MaxInt} {
				checkLeave(t, x, a, shares, 0, api.ErrName)
			}
		}
		checkChain(t, "P1", x, before)
		checkLeave(t, x, people-1, 50, 50, api.OK)
	}
}

// Where two errors apply the one that is named first is told.
func TestLeaveErrorsInOrder(t *testing.T) {
	small := pooled(t, account{locked: 10}, 100)
	none := pooled(t, account{queue: [5]int{0, 100, 0, 0, 0}}, 100)
	for _, x := range []*Chain{small, none, mustNew(t, example())} {
		before := *x
		for _, shares := range edges {
			if shares < 1 || shares > api.MaxShares {
				checkLeave(t, x, -1, shares, 0, api.ErrName)
				checkLeave(t, x, 2, shares, 0, api.ErrName)
				checkLeave(t, x, 0, shares, 0, api.ErrAmount)
				checkLeave(t, x, 1, shares, 0, api.ErrAmount)
			}
		}
		for _, shares := range []int{1, 9, 101, api.MaxShares} {
			checkLeave(t, x, 3, shares, 0, api.ErrName)
			checkLeave(t, x, 1, shares, 0, api.ErrFunds)
		}
		checkLeave(t, x, 0, 101, 0, api.ErrFunds)
		checkLeave(t, x, 0, api.MaxShares, 0, api.ErrFunds)
		checkChain(t, "P1", x, before)
	}
	checkLeave(t, small, 0, 9, 0, api.ErrSmall)
	checkLeave(t, none, 0, 1, 0, api.ErrBusy)
	// Worth nothing, of a pool that has nothing locked: nothing is not more than that.
	none.accounts[2].queue[1] = 99
	checkLeave(t, none, 0, 1, 0, api.ErrSmall)
	checkLeave(t, none, 0, 2, 0, api.ErrBusy)
}

// It comes back at this epoch + Delay, as liquid.
func TestWhatIsLeftComesBack(t *testing.T) {
	for delay := api.MinDelay; delay <= api.MaxDelay; delay++ {
		for epoch := range 4 {
			x := mustNew(t, api.Config{Seats: 1, Delay: delay, Length: 1, Start: []int{100}})
			checkDeposit(t, x, 0, 60, 60, api.OK)
			for range epoch {
				checkNext(t, x, 0)
			}
			checkLeave(t, x, 0, 25, 25, api.OK)
			checkDue(t, x, 0, epoch+delay-1, 0, api.OK)
			checkDue(t, x, 0, epoch+delay, 25, api.OK)
			checkDue(t, x, 0, epoch+delay+1, 0, api.OK)
			checkNext(t, x, 0)
			checkComesBack(t, x, 0, 25, 40, delay)
			checkSee(t, x, 0, api.Account{Liquid: 65, Shares: 35}, api.OK)
			checkSee(t, x, 1, api.Account{Locked: 35, Seats: 1}, api.OK)
			checkDeposit(t, x, 0, 66, 0, api.ErrFunds)
			checkDeposit(t, x, 0, 65, 65, api.OK)
		}
	}
}

// What is given back in one epoch is added, also to what is above a bid; what is of another waits beside it.
func TestLeaveManyTimes(t *testing.T) {
	x := mustNew(t, api.Config{Seats: 1, Delay: 3, Length: 1, Start: []int{1000}})
	checkBid(t, x, 0, 200, api.OK)
	checkBid(t, x, 0, 150, api.OK)
	checkDeposit(t, x, 0, 400, 400, api.OK)
	checkLeave(t, x, 0, 10, 10, api.OK)
	checkLeave(t, x, 0, 20, 20, api.OK)
	checkDue(t, x, 0, 3, 30, api.OK)
	checkSee(t, x, 0, api.Account{Liquid: 400, Locked: 200, Bid: 150, Queued: 30, Shares: 370}, api.OK)
	checkNext(t, x, 0)
	// All 200 are queued behind the 30: 50 are above the bid, 150 below the pool's price.
	checkDue(t, x, 0, 3, 230, api.OK)
	checkLeave(t, x, 0, 7, 7, api.OK)
	checkDue(t, x, 0, 3, 230, api.OK)
	checkDue(t, x, 0, 4, 7, api.OK)
	checkNext(t, x, 0)
	checkLeave(t, x, 0, 363, 363, api.OK)
	checkSee(t, x, 0, api.Account{Liquid: 400, Queued: 600}, api.OK)
	for epoch, liquid := range []int{630, 637, 1000} {
		checkNext(t, x, 0)
		checkSee(t, x, 0, api.Account{Liquid: liquid, Queued: 1000 - liquid}, api.OK)
		checkState(t, x, api.State{Epoch: 3 + epoch, Supply: 1000})
	}
}
