package seats

import (
	"testing"

	"seats/api"
)

func checkSlash(t *testing.T, x *Chain, a int, err api.Errno) {
	t.Helper()
	if e := x.Slash(a); e != err {
		t.Errorf("P10: Slash(%d) = %d, want %d", a, e, err)
	}
}

// Every account has a seat, the pool too: so only numbers of no account are refused, and those always.
func TestSlashOfNoAccount(t *testing.T) {
	for people := 1; people <= api.MaxAccounts; people++ {
		x := mustNew(t, api.Config{Seats: people + 1, Delay: 2, Length: 5, Start: same(people, 10)})
		checkSlashOfAll(t, x, people, api.ErrNone)
		for a := range people {
			checkBid(t, x, a, 10, api.OK)
		}
		x.accounts[people].locked = 10
		checkNext(t, x, 0)
		checkSlashOfAll(t, x, people, api.OK)
		checkNext(t, x, 0)
		checkSlashOfAll(t, x, people, api.ErrNone)
	}
}

// checkSlashOfAll checks what Slash tells of all numbers: of those of accounts, that it is want.
func checkSlashOfAll(t *testing.T, x *Chain, people int, want api.Errno) {
	t.Helper()
	before := *x
	for _, a := range append([]int{people + 1, people + 2}, edges...) {
		if a < 0 || a > people {
			checkSlash(t, x, a, api.ErrName)
		}
	}
	checkChain(t, "P1", x, before)
	for a := range people + 1 {
		checkSlash(t, x, a, want)
	}
	if want != api.OK {
		checkChain(t, "P1", x, before)
	}
}

// Who bids has no seat yet; who has locked the price may have none; who lost it has none.
func TestSlashWithoutASeat(t *testing.T) {
	x := mustNew(t, api.Config{Seats: 2, Delay: 2, Length: 4, Start: []int{50, 50, 50, 20}})
	for a, amount := range []int{50, 50, 50, 20} {
		checkBid(t, x, a, amount, api.OK)
		checkSlash(t, x, a, api.ErrNone)
	}
	checkNext(t, x, 0)
	checkSee(t, x, 2, api.Account{Locked: 50, Bid: 50}, api.OK)
	before := *x
	for a := 2; a <= 4; a++ {
		checkSlash(t, x, a, api.ErrNone)
	}
	checkChain(t, "P1", x, before)
	checkSlash(t, x, 0, api.OK)
	checkNext(t, x, 0)
	checkSlash(t, x, 0, api.ErrNone)
	checkSlash(t, x, 1, api.OK)
	checkSlash(t, x, 2, api.OK)
	checkNext(t, x, 0)
	// Those that were refused have lost nothing.
	checkSee(t, x, 0, api.Account{Liquid: 25}, api.OK)
	checkSee(t, x, 1, api.Account{Queued: 25}, api.OK)
	checkSee(t, x, 2, api.Account{Queued: 25}, api.OK)
	checkSee(t, x, 3, api.Account{Liquid: 20}, api.OK)
	checkState(t, x, api.State{Epoch: 3, Supply: 95})
}

// Before the epoch ends nothing comes of it: the account may go on as the others.
func TestSlashTakesNothingYet(t *testing.T) {
	x := staked(t, two(0))
	want := *x
	checkSlash(t, x, 0, api.OK)
	want.accounts[0].cheated = true
	checkChain(t, "P10", x, want)
	checkTurns(t, x, 10, []int{1, 0})
	checkSee(t, x, 0, api.Account{Locked: 1000, Bid: 1000, Seats: 1}, api.OK)
	checkState(t, x, api.State{Epoch: 1, Supply: 2001, Price: 1000})
	makeBlocks(t, x, 10)
	checkBid(t, x, 0, 900, api.OK)
}

// The second time and all others tell OK, and no more than half is burnt.
func TestSlashManyTimes(t *testing.T) {
	for _, times := range []int{1, 2, 3, 4, 100} {
		x := staked(t, two(0))
		for range times {
			checkSlash(t, x, 1, api.OK)
		}
		checkNext(t, x, 0)
		checkSee(t, x, 1, api.Account{Queued: 501}, api.OK)
		checkDue(t, x, 1, 4, 501, api.OK)
		checkSee(t, x, 0, api.Account{Locked: 1000, Bid: 1000, Seats: 2}, api.OK)
		checkState(t, x, api.State{Epoch: 2, Supply: 1651, Treasury: 150, Price: 500})
	}
}

// Blocks of the slashed are made, but not paid: what they would bring is the treasury's.
func TestSlashedAreNotPaid(t *testing.T) {
	x := staked(t, two(1000))
	checkSlash(t, x, 0, api.OK)
	makeBlocks(t, x, 10)
	checkNext(t, x, 0)
	checkSee(t, x, 0, api.Account{Queued: 500}, api.OK)
	// 1501 are left, 150 are new.
	checkSee(t, x, 1, api.Account{Locked: 1076, Bid: 1076, Seats: 2}, api.OK)
	checkState(t, x, api.State{Epoch: 2, Supply: 1651, Treasury: 75, Price: 538})
}

// Who is slashed and made too little is slashed alone: half is burnt, and the other half queued once.
func TestSlashedBesideLazyAndDiligent(t *testing.T) {
	x := staked(t, api.Config{Seats: 3, Delay: 4, Rate: 100, Cut: 100, Length: 6, Need: 1000, Start: []int{1000, 1000, 1001}})
	checkSlash(t, x, 2, api.OK)
	makeBlocksOf(t, x, 0, 1)
	makeBlocksOf(t, x, 1, 2)
	makeBlocksOf(t, x, 2, 1)
	checkNext(t, x, 0)
	// 2501 are left; 250 are new, of which 25 are the treasury's and 75 account 1's.
	checkSee(t, x, 0, api.Account{Queued: 1000}, api.OK)
	checkDue(t, x, 0, 5, 1000, api.OK)
	checkSee(t, x, 1, api.Account{Locked: 1075, Bid: 1075, Seats: 3}, api.OK)
	checkSee(t, x, 2, api.Account{Queued: 501}, api.OK)
	checkDue(t, x, 2, 5, 501, api.OK)
	checkState(t, x, api.State{Epoch: 2, Supply: 2751, Treasury: 175, Price: 358})
}

// If all are slashed nobody is left to be paid or to have a seat.
func TestSlashAll(t *testing.T) {
	x := staked(t, two(500))
	makeBlocks(t, x, 10)
	checkSlash(t, x, 0, api.OK)
	checkSlash(t, x, 1, api.OK)
	checkNext(t, x, 0)
	checkSee(t, x, 0, api.Account{Queued: 500}, api.OK)
	checkSee(t, x, 1, api.Account{Queued: 501}, api.OK)
	checkState(t, x, api.State{Epoch: 2, Supply: 1101, Treasury: 100})
	checkLeader(t, x, 0, 0, api.ErrNone)
	checkMake(t, x, 0, api.ErrNone)
	checkSlash(t, x, 0, api.ErrNone)
	checkSlash(t, x, 2, api.ErrNone)
}

// What the account locks behind the Slash is halved with the rest; what it bids back is no safer.
func TestSlashBehindAnotherBid(t *testing.T) {
	for _, b := range []struct{ bid, liquid, queued int }{
		{0, 400, 300}, {1, 400, 300}, {599, 400, 300}, {600, 400, 300}, {601, 399, 301}, {1000, 0, 500},
	} {
		for _, isBefore := range []bool{true, false} {
			x := exampleBehindOne(t)
			if isBefore {
				checkBid(t, x, 0, b.bid, api.OK)
			}
			checkSlash(t, x, 0, api.OK)
			if !isBefore {
				checkBid(t, x, 0, b.bid, api.OK)
			}
			checkNext(t, x, 0)
			checkSee(t, x, 0, api.Account{Liquid: b.liquid, Queued: b.queued}, api.OK)
			checkDue(t, x, 0, 3, b.queued, api.OK)
		}
	}
}

// Who has a seat again some epochs later is not slashed anew, unless it is told of anew.
func TestSlashIsForgotten(t *testing.T) {
	for _, isTold := range []bool{false, true} {
		x := exampleBehindOne(t)
		x.rules.rate = 0
		checkSlash(t, x, 0, api.OK)
		checkNext(t, x, 0)
		checkBid(t, x, 0, 400, api.OK)
		checkNext(t, x, 0)
		checkSee(t, x, 0, api.Account{Liquid: 300, Locked: 400, Bid: 400, Seats: 2}, api.OK)
		want := api.Account{Liquid: 300, Locked: 400, Bid: 400, Seats: 2}
		if isTold {
			checkSlash(t, x, 0, api.OK)
			want = api.Account{Liquid: 300, Queued: 200}
		}
		checkNext(t, x, 0)
		checkSee(t, x, 0, want, api.OK)
	}
}

// The pool locks what comes back to it in the Next that slashes it: so it has a seat at once, and is not slashed anew.
func TestSlashOfThePoolIsForgotten(t *testing.T) {
	x := mustNew(t, api.Config{Seats: 1, Delay: 2, Length: 3, Need: 1000, Start: []int{10}})
	x.accounts[1] = account{locked: 81, queue: [5]int{0, 30, 0, 0, 0}}
	checkSlash(t, x, 1, api.ErrNone)
	checkNext(t, x, 0)
	checkSlash(t, x, 1, api.OK)
	checkSlash(t, x, 2, api.ErrName)
	checkNext(t, x, 0)
	checkSee(t, x, 1, api.Account{Locked: 30, Queued: 41, Seats: 1}, api.OK)
	checkDue(t, x, 1, 3, 41, api.OK)
	checkNext(t, x, 0)
	checkSee(t, x, 1, api.Account{Locked: 71, Seats: 1}, api.OK)
	checkState(t, x, api.State{Epoch: 3, Supply: 81, Price: 71})
}

func TestSlashOnOneChainAlone(t *testing.T) {
	x := exampleBehindOne(t)
	y := exampleBehindOne(t)
	before := *y
	checkSlash(t, x, 0, api.OK)
	checkChain(t, "P2", y, before)
	checkNext(t, x, 0)
	checkChain(t, "P2", y, before)
	checkNext(t, y, 0)
	checkSee(t, x, 0, api.Account{Liquid: 400, Queued: 300}, api.OK)
	checkSee(t, y, 0, api.Account{Liquid: 400, Locked: 600, Bid: 600, Seats: 2}, api.OK)
}
