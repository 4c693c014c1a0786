package seats

import (
	"math"
	"testing"

	"seats/api"
)

func checkBid(t *testing.T, x *Chain, a int, amount int, err api.Errno) {
	t.Helper()
	if e := x.Bid(a, amount); e != err {
		t.Errorf("P7: Bid(%d, %d) = %d, want %d", a, amount, e, err)
	}
}

func checkChain(t *testing.T, what string, x *Chain, want Chain) {
	t.Helper()
	if *x != want {
		t.Errorf("%s: the chain is %+v, want %+v", what, *x, want)
	}
}

func TestBidOfTheExample(t *testing.T) {
	x := mustNew(t, example())
	checkBid(t, x, 0, 600, api.OK)
	checkSee(t, x, 0, api.Account{Liquid: 400, Locked: 600, Bid: 600}, api.OK)
	checkBid(t, x, 1, 501, api.ErrFunds)
	checkSee(t, x, 1, api.Account{Liquid: 500}, api.OK)
	checkBid(t, x, 1, 200, api.OK)
	checkSee(t, x, 1, api.Account{Liquid: 300, Locked: 200, Bid: 200}, api.OK)
}

// Below and at what is locked nothing moves; above it the difference does, if it is there.
func TestBidAroundWhatIsLocked(t *testing.T) {
	for _, b := range []struct {
		amount int
		want   api.Account
		err    api.Errno
	}{
		{0, api.Account{Liquid: 30, Locked: 70}, api.OK},
		{1, api.Account{Liquid: 30, Locked: 70, Bid: 1}, api.OK},
		{69, api.Account{Liquid: 30, Locked: 70, Bid: 69}, api.OK},
		{70, api.Account{Liquid: 30, Locked: 70, Bid: 70}, api.OK},
		{71, api.Account{Liquid: 29, Locked: 71, Bid: 71}, api.OK},
		{99, api.Account{Liquid: 1, Locked: 99, Bid: 99}, api.OK},
		{100, api.Account{Locked: 100, Bid: 100}, api.OK},
		{101, api.Account{Liquid: 30, Locked: 70, Bid: 20}, api.ErrFunds},
		{api.MaxSupply, api.Account{Liquid: 30, Locked: 70, Bid: 20}, api.ErrFunds},
		{api.MaxSupply + 1, api.Account{Liquid: 30, Locked: 70, Bid: 20}, api.ErrAmount},
		{-1, api.Account{Liquid: 30, Locked: 70, Bid: 20}, api.ErrAmount},
	} {
		c := example()
		c.Start = []int{5, 100}
		x := mustNew(t, c)
		checkBid(t, x, 1, 70, api.OK)
		checkBid(t, x, 1, 20, api.OK)
		checkBid(t, x, 1, b.amount, b.err)
		checkSee(t, x, 1, b.want, api.OK)
		checkSee(t, x, 0, api.Account{Liquid: 5}, api.OK)
		if s := x.State(); s != (api.State{Supply: 105}) {
			t.Errorf("P7: State behind Bid(1, %d) = %+v, want supply 105 alone", b.amount, s)
		}
	}
}

func TestBidTouchesOneAccountAlone(t *testing.T) {
	x := busy(t)
	want := *x
	checkBid(t, x, 1, 250, api.OK)
	want.accounts[1].liquid = 50
	want.accounts[1].locked = 250
	want.accounts[1].bid = 250
	checkChain(t, "P7", x, want)
	checkBid(t, x, 2, 1999, api.OK)
	want.accounts[2].bid = 1999
	checkChain(t, "P7", x, want)
}

func TestBidTheGreatestAmount(t *testing.T) {
	x := mustNew(t, example())
	x.accounts[0].liquid = 1
	x.accounts[0].locked = api.MaxSupply - 1
	checkBid(t, x, 0, api.MaxSupply+1, api.ErrAmount)
	checkBid(t, x, 0, api.MaxSupply, api.OK)
	checkSee(t, x, 0, api.Account{Locked: api.MaxSupply, Bid: api.MaxSupply}, api.OK)
}

// What is queued, what others have and what the pool has does not help.
func TestBidOfWhatIsLiquidAlone(t *testing.T) {
	x := busy(t)
	before := *x
	checkBid(t, x, 0, 31, api.ErrFunds)
	checkChain(t, "P1", x, before)
	checkBid(t, x, 0, 30, api.OK)
	checkSee(t, x, 0, api.Account{Locked: 30, Bid: 30, Queued: 15, Seats: 1, Shares: 40}, api.OK)
}

func TestBidOfNoAccount(t *testing.T) {
	for people := 1; people <= api.MaxAccounts; people++ {
		c := example()
		c.Start = same(people, 50)
		x := mustNew(t, c)
		x.accounts[people].liquid = 50
		before := *x
		for _, a := range append([]int{people, people + 1}, edges...) {
			if a >= 0 && a < people {
				continue
			}
			for _, amount := range []int{math.MinInt, -1, 0, 1, 50, 51, api.MaxSupply + 1, math.MaxInt} {
				checkBid(t, x, a, amount, api.ErrName)
			}
		}
		checkChain(t, "P1", x, before)
		checkBid(t, x, people-1, 50, api.OK)
	}
}

func TestBidErrorsInOrder(t *testing.T) {
	x := mustNew(t, example())
	checkBid(t, x, 0, 600, api.OK)
	before := *x
	for _, amount := range []int{math.MinInt, math.MinInt + 1, -api.MaxSupply, -1, api.MaxSupply + 1, math.MaxInt - 1, math.MaxInt} {
		checkBid(t, x, 2, amount, api.ErrName)
		checkBid(t, x, -1, amount, api.ErrName)
		checkBid(t, x, 0, amount, api.ErrAmount)
		checkBid(t, x, 1, amount, api.ErrAmount)
	}
	checkBid(t, x, 0, 1001, api.ErrFunds)
	checkBid(t, x, 1, 501, api.ErrFunds)
	checkBid(t, x, 1, api.MaxSupply, api.ErrFunds)
	checkChain(t, "P1", x, before)
}

// What is locked cannot be sent, even if the bid is lower.
func TestSendBehindBid(t *testing.T) {
	x := mustNew(t, example())
	checkBid(t, x, 0, 600, api.OK)
	checkBid(t, x, 0, 0, api.OK)
	checkSend(t, x, 0, 1, 401, api.ErrFunds)
	checkSend(t, x, 0, 1, 400, api.OK)
	checkSee(t, x, 0, api.Account{Locked: 600}, api.OK)
	checkBid(t, x, 1, 900, api.OK)
	checkSee(t, x, 1, api.Account{Locked: 900, Bid: 900}, api.OK)
}
