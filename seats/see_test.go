package seats

import (
	"math"
	"testing"

	"seats/api"
)

func checkSee(t *testing.T, x *Chain, a int, want api.Account, err api.Errno) {
	t.Helper()
	if got, e := x.See(a); got != want || e != err {
		t.Errorf("P5: See(%d) = %+v, %d, want %+v, %d", a, got, e, want, err)
	}
}

func checkDue(t *testing.T, x *Chain, a int, epoch int, want int, err api.Errno) {
	t.Helper()
	if got, e := x.Due(a, epoch); got != want || e != err {
		t.Errorf("P5: Due(%d, %d) = %d, %d, want %d, %d", a, epoch, got, e, want, err)
	}
}

func TestSeeTellsEverything(t *testing.T) {
	x := busy(t)
	checkSee(t, x, 0, api.Account{Liquid: 10, Locked: 20, Bid: 30, Queued: 15, Seats: 1, Shares: 40}, api.OK)
	checkSee(t, x, 1, api.Account{Liquid: 100, Locked: 200, Bid: 300, Queued: 60, Seats: 2, Shares: 400}, api.OK)
	checkSee(t, x, 2, api.Account{Liquid: 1000, Locked: 2000, Bid: 3000, Queued: 70, Seats: 3, Shares: 4000}, api.OK)
	checkSee(t, x, 3, api.Account{Liquid: 10000, Locked: 20000, Queued: 1700, Seats: 4}, api.OK)
}

func TestStateTellsEverything(t *testing.T) {
	x := busy(t)
	supply := 11110 + 22220 + (15 + 60 + 70 + 1700) + 5000000
	want := api.State{Epoch: 7, Supply: supply, Treasury: 5000000, Price: 41, Shares: 4440}
	if s := x.State(); s != want {
		t.Errorf("P5: State = %+v, want %+v", s, want)
	}
}

func TestDueTellsOneEpoch(t *testing.T) {
	x := busy(t)
	for a, queue := range [][5]int{{1, 2, 3, 4, 5}, {0, 0, 0, 0, 60}, {70, 0, 0, 0, 0}, {0, 800, 0, 900, 0}} {
		for k, amount := range queue {
			checkDue(t, x, a, 8+k, amount, api.OK)
		}
		for _, epoch := range []int{math.MinInt, math.MinInt + 6, math.MinInt + 7, math.MinInt + 8, -1, 0, 1, 6, 7, 13, 14, math.MaxInt - 1, math.MaxInt} {
			checkDue(t, x, a, epoch, 0, api.OK)
		}
	}
}

func TestSeeAndDueOfNoAccount(t *testing.T) {
	for people := 1; people <= api.MaxAccounts; people++ {
		c := example()
		c.Start = same(people, 5)
		x := mustNew(t, c)
		x.accounts[people].queue[0] = 6
		for _, a := range append([]int{people, people + 1}, edges...) {
			if a >= 0 && a <= people {
				continue
			}
			checkSee(t, x, a, api.Account{}, api.ErrName)
			for _, epoch := range edges {
				checkDue(t, x, a, epoch, 0, api.ErrName)
			}
		}
		checkSee(t, x, people, api.Account{Queued: 6}, api.OK)
		checkDue(t, x, people, 1, 6, api.OK)
	}
}

func TestLookingChangesNothing(t *testing.T) {
	x := busy(t)
	before := *x
	for _, a := range edges {
		x.See(a)
		x.State()
		for _, epoch := range edges {
			x.Due(a, epoch)
		}
	}
	if *x != before {
		t.Errorf("P5: the chain is %+v, was %+v", *x, before)
	}
}
