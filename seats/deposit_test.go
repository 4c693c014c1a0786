package seats

import (
	"math"
	"testing"

	"seats/api"
)

func checkDeposit(t *testing.T, x *Chain, a int, amount int, want int, err api.Errno) {
	t.Helper()
	if shares, e := x.Deposit(a, amount); shares != want || e != err {
		t.Errorf("P11: Deposit(%d, %d) = %d, %d, want %d, %d", a, amount, shares, e, want, err)
	}
}

// pooled is a chain whose pool is this, with all shares account 0's, which has 1000 liquid; account 1 has nothing.
func pooled(t *testing.T, pool account, shares int) *Chain {
	t.Helper()
	c := example()
	c.Start = []int{1000, 0}
	x := mustNew(t, c)
	x.accounts[0].shares = shares
	x.accounts[2] = pool
	return x
}

func TestDepositOfTheExample(t *testing.T) {
	x := mustNew(t, example())
	checkDeposit(t, x, 1, 100, 100, api.OK)
	checkSee(t, x, 0, api.Account{Liquid: 1000}, api.OK)
	checkSee(t, x, 1, api.Account{Liquid: 400, Shares: 100}, api.OK)
	checkSee(t, x, 2, api.Account{Locked: 100}, api.OK)
	checkState(t, x, api.State{Supply: 1500, Shares: 100})
}

// The smallest and the greatest first deposits give as many shares as they are.
func TestDepositIntoAnEmptyPool(t *testing.T) {
	for _, amount := range []int{1, 2, 3, 999, 1000} {
		x := mustNew(t, example())
		checkDeposit(t, x, 0, amount, amount, api.OK)
		checkSee(t, x, 0, api.Account{Liquid: 1000 - amount, Shares: amount}, api.OK)
		checkSee(t, x, 2, api.Account{Locked: amount}, api.OK)
		checkState(t, x, api.State{Supply: 1500, Shares: amount})
	}
}

// Whoever gave all shares back: who comes next is the first again.
func TestDepositWhenAllSharesWereGivenBack(t *testing.T) {
	x := pooled(t, account{locked: 700}, 100)
	checkLeave(t, x, 0, 40, 280, api.OK)
	checkDeposit(t, x, 0, 7, 1, api.OK)
	checkLeave(t, x, 0, 61, 427, api.OK)
	checkSee(t, x, 2, api.Account{}, api.OK)
	checkState(t, x, api.State{Supply: 1700})
	checkDeposit(t, x, 0, 9, 9, api.OK)
	checkSee(t, x, 0, api.Account{Liquid: 984, Queued: 707, Shares: 9}, api.OK)
	checkSee(t, x, 2, api.Account{Locked: 9}, api.OK)
	checkState(t, x, api.State{Supply: 1700, Shares: 9})
}

// Shares are rounded down, and all counts that the pool has: liquid, locked and queued.
func TestDepositGivesShares(t *testing.T) {
	for _, d := range []struct {
		pool               account
		all, amount, given int
	}{
		{account{locked: 100}, 100, 1, 1},
		{account{locked: 100}, 100, 1000, 1000},
		{account{locked: 150}, 100, 1, 0},
		{account{locked: 150}, 100, 2, 1},
		{account{locked: 150}, 100, 3, 2},
		{account{locked: 99}, 100, 98, 98},
		{account{locked: 99}, 100, 99, 100},
		{account{locked: 101}, 100, 1, 0},
		{account{locked: 101}, 100, 2, 1},
		{account{locked: 101}, 100, 101, 100},
		{account{locked: 101}, 100, 102, 100},
		{account{locked: 101}, 100, 103, 101},
		{account{locked: 1}, 100, 1, 100},
		{account{locked: 1000}, 1, 999, 0},
		{account{locked: 1000}, 1, 1000, 1},
		{account{locked: 1001}, 1, 1000, 0},
		{account{liquid: 7}, 3, 2, 0},
		{account{liquid: 7}, 3, 3, 1},
		{account{queue: [5]int{0, 0, 0, 0, 7}}, 3, 2, 0},
		{account{queue: [5]int{7, 0, 0, 0, 0}}, 3, 3, 1},
		{account{liquid: 50, locked: 30, queue: [5]int{1, 2, 3, 4, 110}}, 100, 1, 0},
		{account{liquid: 50, locked: 30, queue: [5]int{1, 2, 3, 4, 110}}, 100, 2, 1},
		{account{liquid: 50, locked: 30, queue: [5]int{1, 2, 3, 4, 110}}, 100, 399, 199},
		{account{locked: 500}, 0, 1, 1},
		{account{locked: 500}, 0, 1000, 1000},
	} {
		x := pooled(t, d.pool, d.all)
		want := *x
		if d.given == 0 {
			checkDeposit(t, x, 0, d.amount, 0, api.ErrSmall)
			checkChain(t, "P1", x, want)
			continue
		}
		checkDeposit(t, x, 0, d.amount, d.given, api.OK)
		want.accounts[0].liquid -= d.amount
		want.accounts[0].shares += d.given
		want.accounts[2].locked += d.amount
		checkChain(t, "P11", x, want)
	}
}

// The shares of all accounts are one sum, whoever has them.
func TestDepositBesideOtherShares(t *testing.T) {
	x := busy(t)
	want := *x
	// 4440 shares of 31700.
	checkDeposit(t, x, 1, 7, 0, api.ErrSmall)
	checkChain(t, "P1", x, want)
	checkDeposit(t, x, 1, 100, 14, api.OK)
	want.accounts[1].liquid = 0
	want.accounts[1].shares = 414
	want.accounts[3].locked = 20100
	checkChain(t, "P11", x, want)
	checkState(t, x, api.State{Epoch: 7, Supply: 5035175, Treasury: 5000000, Price: 41, Shares: 4454})
}

func TestDepositAtTheMostShares(t *testing.T) {
	for _, d := range []struct{ has, all, amount, given int }{
		{900000000, 999999001, 900, 999},
		{900000000, 999999000, 900, 999},
		{900000000, 999999000, 901, 0},
		{900000000, 999999001, 901, 0},
		{1, api.MaxShares / 2, 1, api.MaxShares / 2},
		{1, api.MaxShares/2 + 1, 1, 0},
		{1, api.MaxShares / 1001, 1000, api.MaxShares / 1001 * 1000},
		{1, api.MaxShares/1001 + 1, 1000, 0},
		{1, api.MaxShares - 1, 1, 0},
		{1, api.MaxShares, 1, 0},
		{1, api.MaxShares, 1000, 0},
		{999999000, api.MaxShares, 1, 0},
		{999999000, api.MaxShares - 1, 1, 1},
		{999999000, api.MaxShares - 1, 2, 0},
		{999999000, api.MaxShares - 1000, 1000, 1000},
	} {
		x := pooled(t, account{locked: d.has}, d.all)
		before := *x
		if d.given == 0 {
			checkDeposit(t, x, 0, d.amount, 0, api.ErrFull)
			checkChain(t, "P1", x, before)
			continue
		}
		checkDeposit(t, x, 0, d.amount, d.given, api.OK)
		checkSee(t, x, 0, api.Account{Liquid: 1000 - d.amount, Shares: d.all + d.given}, api.OK)
		checkSee(t, x, 2, api.Account{Locked: d.has + d.amount}, api.OK)
	}
}

// Shares that another account has take the room as one's own do.
func TestDepositAtTheMostSharesOfOthers(t *testing.T) {
	x := pooled(t, account{locked: 1}, api.MaxShares/2)
	checkSend(t, x, 0, 1, 10, api.OK)
	checkDeposit(t, x, 1, 2, 0, api.ErrFull)
	checkDeposit(t, x, 1, 1, api.MaxShares/2, api.OK)
	checkDeposit(t, x, 0, 1, 0, api.ErrFull)
	checkDeposit(t, x, 1, 1, 0, api.ErrFull)
	checkState(t, x, api.State{Supply: 1001, Shares: api.MaxShares})
	checkLeave(t, x, 1, api.MaxShares/2, 1, api.OK)
	checkDeposit(t, x, 0, 1, api.MaxShares/2, api.OK)
}

// Slashing makes each share cheaper, until one more would be too many.
func TestDepositAtTheMostSharesByCallsAlone(t *testing.T) {
	x := mustNew(t, api.Config{Seats: 1, Delay: 2, Length: 1, Start: []int{1024, 10000000}})
	checkDeposit(t, x, 0, 1024, 1024, api.OK)
	checkNext(t, x, 0)
	for range 10 {
		checkSlash(t, x, 2, api.OK)
		checkNext(t, x, 0)
		checkNext(t, x, 0)
	}
	checkSee(t, x, 2, api.Account{Locked: 1, Seats: 1}, api.OK)
	// One liquid brings 1024 shares; 976562 of them and those that are there are the most.
	checkDeposit(t, x, 1, 976562, 0, api.ErrFull)
	checkDeposit(t, x, 1, 976561, 976561*1024, api.OK)
	checkState(t, x, api.State{Epoch: 21, Supply: 10000001, Price: 1, Shares: 976562 * 1024})
	checkDeposit(t, x, 1, 1, 0, api.ErrFull)
}

func TestDepositTheGreatestAmount(t *testing.T) {
	x := mustNew(t, example())
	x.accounts[0].liquid = api.MaxSupply
	x.accounts[1].liquid = 0
	checkDeposit(t, x, 0, api.MaxSupply+1, 0, api.ErrAmount)
	checkDeposit(t, x, 0, api.MaxSupply, api.MaxShares, api.OK)
	checkSee(t, x, 0, api.Account{Shares: api.MaxShares}, api.OK)
	checkSee(t, x, 2, api.Account{Locked: api.MaxSupply}, api.OK)
	checkState(t, x, api.State{Supply: api.MaxSupply, Shares: api.MaxShares})
}

// The greatest product: far too many shares, not some number below 0.
func TestDepositTheGreatestProduct(t *testing.T) {
	x := pooled(t, account{locked: 1}, api.MaxShares)
	x.accounts[0].liquid = api.MaxSupply - 1
	before := *x
	for _, amount := range []int{1, 2, 3, api.MaxSupply / 2, api.MaxSupply - 2, api.MaxSupply - 1} {
		checkDeposit(t, x, 0, amount, 0, api.ErrFull)
	}
	checkDeposit(t, x, 0, api.MaxSupply, 0, api.ErrFunds)
	checkChain(t, "P1", x, before)
}

func TestDepositOfAllOneHas(t *testing.T) {
	x := mustNew(t, example())
	checkDeposit(t, x, 1, 501, 0, api.ErrFunds)
	checkDeposit(t, x, 1, 500, 500, api.OK)
	checkDeposit(t, x, 1, 1, 0, api.ErrFunds)
	checkSee(t, x, 1, api.Account{Shares: 500}, api.OK)
}

// What is locked or queued is not given, nor what others have, and a bid stays as it was.
func TestDepositOfWhatIsLiquidAlone(t *testing.T) {
	x := busy(t)
	before := *x
	checkDeposit(t, x, 0, 11, 0, api.ErrFunds)
	checkDeposit(t, x, 2, 1001, 0, api.ErrFunds)
	checkChain(t, "P1", x, before)
	checkDeposit(t, x, 0, 10, 1, api.OK)
	checkSee(t, x, 0, api.Account{Locked: 20, Bid: 30, Queued: 15, Seats: 1, Shares: 41}, api.OK)
	y := mustNew(t, example())
	checkBid(t, y, 0, 600, api.OK)
	checkBid(t, y, 0, 100, api.OK)
	checkDeposit(t, y, 0, 401, 0, api.ErrFunds)
	checkDeposit(t, y, 0, 400, 400, api.OK)
	checkSee(t, y, 0, api.Account{Locked: 600, Bid: 100, Shares: 400}, api.OK)
	checkBid(t, y, 0, 601, api.ErrFunds)
	checkSend(t, y, 0, 1, 1, api.ErrFunds)
}

func TestDepositOfNoAccount(t *testing.T) {
	for people := 1; people <= api.MaxAccounts; people++ {
		c := example()
		c.Start = same(people, 50)
		x := mustNew(t, c)
		x.accounts[people].liquid = 50
		before := *x
		for _, a := range append([]int{people, people + 1}, edges...) {
			if a >= 0 && a < people {
				continue
			}
			for _, amount := range []int{math.MinInt, -1, 0, 1, 50, 51, api.MaxSupply, api.MaxSupply + 1, math.MaxInt} {
				checkDeposit(t, x, a, amount, 0, api.ErrName)
			}
		}
		checkChain(t, "P1", x, before)
		checkDeposit(t, x, people-1, 50, 50, api.OK)
		checkSee(t, x, people, api.Account{Liquid: 50, Locked: 50}, api.OK)
	}
}

// Where two errors apply the one that is named first is told.
func TestDepositErrorsInOrder(t *testing.T) {
	small := pooled(t, account{locked: 500}, 100)
	full := pooled(t, account{locked: 1}, api.MaxShares)
	for _, x := range []*Chain{small, full, mustNew(t, example())} {
		before := *x
		for _, amount := range edges {
			if amount < 1 || amount > api.MaxSupply {
				checkDeposit(t, x, -1, amount, 0, api.ErrName)
				checkDeposit(t, x, 2, amount, 0, api.ErrName)
				checkDeposit(t, x, 0, amount, 0, api.ErrAmount)
				checkDeposit(t, x, 1, amount, 0, api.ErrAmount)
			}
		}
		checkDeposit(t, x, 0, 1001, 0, api.ErrFunds)
		checkDeposit(t, x, 0, api.MaxSupply, 0, api.ErrFunds)
		checkDeposit(t, x, 3, 1001, 0, api.ErrName)
		checkChain(t, "P1", x, before)
	}
	for _, amount := range []int{1, 4, 5} {
		checkDeposit(t, small, 1, amount, 0, api.ErrFunds)
		checkDeposit(t, full, 1, amount, 0, api.ErrFunds)
		checkDeposit(t, small, 2, amount, 0, api.ErrName)
		checkDeposit(t, full, 2, amount, 0, api.ErrName)
	}
	checkDeposit(t, small, 0, 4, 0, api.ErrSmall)
	checkDeposit(t, full, 0, 4, 0, api.ErrFull)
}

// No calls lead to shares of nothing; if there were some, no division would fail.
func TestSharesOfNothing(t *testing.T) {
	x := pooled(t, account{}, 100)
	checkDeposit(t, x, 0, 5, 0, api.ErrSmall)
	checkLeave(t, x, 0, 5, 0, api.ErrSmall)
}
