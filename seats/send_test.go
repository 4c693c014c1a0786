package seats

import (
	"math"
	"testing"

	"seats/api"
)

func checkSend(t *testing.T, x *Chain, a int, b int, amount int, err api.Errno) {
	t.Helper()
	if e := x.Send(a, b, amount); e != err {
		t.Errorf("P6: Send(%d, %d, %d) = %d, want %d", a, b, amount, e, err)
	}
}

func checkLiquid(t *testing.T, x *Chain, amounts ...int) {
	t.Helper()
	all := 0
	for i, amount := range amounts {
		all += amount
		checkSee(t, x, i, api.Account{Liquid: amount}, api.OK)
	}
	checkSee(t, x, len(amounts), api.Account{}, api.OK)
	if s := x.State(); s != (api.State{Supply: all}) {
		t.Errorf("P6: State = %+v, want supply %d", s, all)
	}
}

func TestSendMoves(t *testing.T) {
	c := example()
	c.Start = []int{1000, 500, 0}
	x := mustNew(t, c)
	checkSend(t, x, 0, 1, 1, api.OK)
	checkLiquid(t, x, 999, 501, 0)
	checkSend(t, x, 0, 2, 999, api.OK)
	checkLiquid(t, x, 0, 501, 999)
	checkSend(t, x, 0, 1, 1, api.ErrFunds)
	checkSend(t, x, 2, 1, 1000, api.ErrFunds)
	checkSend(t, x, 1, 0, 501, api.OK)
	checkLiquid(t, x, 501, 0, 999)
}

func TestSendToOneself(t *testing.T) {
	x := mustNew(t, example())
	checkSend(t, x, 0, 0, 1000, api.OK)
	checkSend(t, x, 1, 1, 1, api.OK)
	checkSend(t, x, 1, 1, 501, api.ErrFunds)
	checkLiquid(t, x, 1000, 500)
}

func TestSendTheGreatestAmount(t *testing.T) {
	x := mustNew(t, example())
	x.accounts[0].liquid = api.MaxSupply
	x.accounts[1].liquid = 0
	checkSend(t, x, 0, 1, api.MaxSupply+1, api.ErrAmount)
	checkSend(t, x, 0, 1, api.MaxSupply, api.OK)
	checkLiquid(t, x, 0, api.MaxSupply)
}

func TestSendToAndFromNoAccount(t *testing.T) {
	for people := 1; people <= api.MaxAccounts; people++ {
		c := example()
		c.Start = same(people, 50)
		x := mustNew(t, c)
		x.accounts[people].liquid = 50
		before := *x
		for _, a := range append([]int{people, people + 1}, edges...) {
			if a >= 0 && a < people {
				continue
			}
			checkSend(t, x, a, 0, 1, api.ErrName)
			checkSend(t, x, people-1, a, 1, api.ErrName)
			checkSend(t, x, a, a, 1, api.ErrName)
		}
		checkSend(t, x, people-1, 0, 51, api.ErrFunds)
		if *x != before {
			t.Errorf("P1: with an error the chain became %+v, was %+v", *x, before)
		}
		checkSend(t, x, people-1, 0, 50, api.OK)
	}
}

func TestSendErrorsInOrder(t *testing.T) {
	x := mustNew(t, example())
	for _, amount := range []int{math.MinInt, -1, 0, api.MaxSupply + 1, math.MaxInt} {
		checkSend(t, x, 2, 0, amount, api.ErrName)
		checkSend(t, x, 0, -1, amount, api.ErrName)
		checkSend(t, x, 0, 1, amount, api.ErrAmount)
		checkSend(t, x, 1, 1, amount, api.ErrAmount)
	}
	checkSend(t, x, 0, 2, 1001, api.ErrName)
	checkSend(t, x, 3, 1, 1001, api.ErrName)
	checkSend(t, x, 0, 1, 1001, api.ErrFunds)
	checkSend(t, x, 1, 0, api.MaxSupply, api.ErrFunds)
	checkLiquid(t, x, 1000, 500)
}

// Only what is liquid may be sent, and nothing but that moves.
func TestSendTouchesTheLiquidAlone(t *testing.T) {
	x := busy(t)
	want := *x
	checkSend(t, x, 0, 1, 11, api.ErrFunds)
	checkSend(t, x, 2, 1, 1001, api.ErrFunds)
	if *x != want {
		t.Errorf("P1: with an error the chain became %+v, was %+v", *x, want)
	}
	checkSend(t, x, 2, 0, 600, api.OK)
	want.accounts[2].liquid = 400
	want.accounts[0].liquid = 610
	if *x != want {
		t.Errorf("P6: the chain is %+v, want %+v", *x, want)
	}
}
