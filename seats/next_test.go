package seats

import (
	"testing"

	"seats/api"
)

func checkNext(t *testing.T, x *Chain, seed int) {
	t.Helper()
	if e := x.Next(seed); e != api.OK {
		t.Errorf("P8: Next(%d) = %d", seed, e)
	}
}

func checkState(t *testing.T, x *Chain, want api.State) {
	t.Helper()
	if got := x.State(); got != want {
		t.Errorf("P8: State = %+v, want %+v", got, want)
	}
}

// staked is a chain with these rules, behind a first Next with seed 0 for which each account has bid all it has.
func staked(t *testing.T, c api.Config) *Chain {
	t.Helper()
	rate := c.Rate
	c.Rate = 0
	x := mustNew(t, c)
	for a, amount := range c.Start {
		checkBid(t, x, a, amount, api.OK)
	}
	checkNext(t, x, 0)
	x.rules.rate = rate
	return x
}

// exampleBehindOne is the chain of the second example, behind its Next.
func exampleBehindOne(t *testing.T) *Chain {
	t.Helper()
	x := mustNew(t, example())
	checkBid(t, x, 0, 600, api.OK)
	checkBid(t, x, 1, 200, api.OK)
	checkNext(t, x, 0)
	return x
}

func TestFirstNextOfTheExample(t *testing.T) {
	x := exampleBehindOne(t)
	checkState(t, x, api.State{Epoch: 1, Supply: 1650, Treasury: 150, Price: 300})
	checkSee(t, x, 0, api.Account{Liquid: 400, Locked: 600, Bid: 600, Seats: 2}, api.OK)
	checkSee(t, x, 1, api.Account{Liquid: 300, Queued: 200}, api.OK)
	checkSee(t, x, 2, api.Account{}, api.OK)
	for _, epoch := range edges {
		want := 0
		if epoch == 2 {
			want = 200
		}
		checkDue(t, x, 1, epoch, want, api.OK)
		checkDue(t, x, 0, epoch, 0, api.OK)
	}
	checkLeader(t, x, 3, 0, api.OK)
}

func TestSecondNextOfTheExample(t *testing.T) {
	x := exampleBehindOne(t)
	makeBlocks(t, x, 5)
	checkNext(t, x, 0)
	checkState(t, x, api.State{Epoch: 2, Supply: 1815, Treasury: 241, Price: 337})
	checkSee(t, x, 0, api.Account{Liquid: 400, Locked: 674, Bid: 674, Seats: 2}, api.OK)
	checkSee(t, x, 1, api.Account{Liquid: 500}, api.OK)
}

func TestLazyAloneIsNot(t *testing.T) {
	x := exampleBehindOne(t)
	makeBlocks(t, x, 4)
	checkNext(t, x, 0)
	checkState(t, x, api.State{Epoch: 2, Supply: 1815, Treasury: 256, Price: 329})
	checkSee(t, x, 0, api.Account{Liquid: 400, Locked: 659, Bid: 659, Seats: 2}, api.OK)
}

func TestSlashedOfTheExample(t *testing.T) {
	x := exampleBehindOne(t)
	makeBlocks(t, x, 10)
	checkSlash(t, x, 0, api.OK)
	checkNext(t, x, 0)
	checkState(t, x, api.State{Epoch: 2, Supply: 1485, Treasury: 285})
	checkSee(t, x, 0, api.Account{Liquid: 400, Queued: 300}, api.OK)
	checkDue(t, x, 0, 3, 300, api.OK)
	checkLeader(t, x, 0, 0, api.ErrNone)
}

// two is a chain with a seat for each of two accounts: 0 leads the odd heights, 1 the even ones.
func two(need int) api.Config {
	return api.Config{Seats: 2, Delay: 3, Rate: 100, Cut: 0, Length: 10, Need: need, Start: []int{1000, 1001}}
}

func TestLazyAtTheNeed(t *testing.T) {
	for _, c := range []struct {
		need, made int
		isLazy     bool
	}{
		{0, 0, false}, {1, 0, true}, {1, 1, false},
		{200, 1, false}, {201, 1, true}, {400, 1, true}, {400, 2, false}, {600, 3, false}, {601, 3, true},
		{800, 3, true}, {800, 4, false}, {801, 4, true}, {1000, 4, true}, {1000, 5, false},
	} {
		x := staked(t, two(c.need))
		makeBlocksOf(t, x, 0, c.made)
		makeBlocksOf(t, x, 1, 5)
		checkNext(t, x, 0)
		paid := 200 * c.made / 10
		if c.isLazy {
			checkSee(t, x, 0, api.Account{Queued: 1000}, api.OK)
			checkDue(t, x, 0, 4, 1000, api.OK)
			checkSee(t, x, 1, api.Account{Locked: 1101, Bid: 1101, Seats: 2}, api.OK)
			checkState(t, x, api.State{Epoch: 2, Supply: 2201, Treasury: 100, Price: 550})
		} else {
			checkSee(t, x, 0, api.Account{Locked: 1000 + paid, Bid: 1000 + paid, Seats: 1}, api.OK)
			checkSee(t, x, 1, api.Account{Locked: 1101, Bid: 1101, Seats: 1}, api.OK)
			checkState(t, x, api.State{Epoch: 2, Supply: 2201, Treasury: 100 - paid, Price: 1000 + paid})
		}
	}
}

// With turns that do not come out even each is held to its own: 1 leads three heights of five, 0 leads two.
func TestLazyAtTheNeedOfItsOwnTurns(t *testing.T) {
	for _, c := range []struct {
		need, made0, made1 int
		isLazy0, isLazy1   bool
	}{
		{333, 2, 1, false, false}, {334, 2, 1, false, true}, {666, 2, 2, false, false}, {667, 2, 2, false, true},
		{1000, 2, 2, false, true}, {1000, 2, 3, false, false}, {500, 1, 3, false, false}, {501, 1, 3, true, false},
		{500, 1, 1, false, true}, {500, 0, 2, true, false}, {501, 1, 2, true, false}, {400, 1, 1, false, true},
		{667, 1, 2, false, false}, {334, 0, 1, false, false}, {333, 0, 1, true, false}, {1000, 0, 0, false, false},
	} {
		rules := two(c.need)
		rules.Length = 5
		x := staked(t, rules)
		makeBlocksOf(t, x, 0, c.made0)
		makeBlocksOf(t, x, 1, c.made1)
		checkNext(t, x, 0)
		for a, isLazy := range []bool{c.isLazy0, c.isLazy1} {
			if s, e := x.See(a); e != api.OK || (s.Bid == 0) != isLazy || (s.Seats == 0) != isLazy || (s.Queued > 0) != isLazy {
				t.Errorf("P8: with %+v See(%d) = %+v, %d", c, a, s, e)
			}
		}
	}
}

// If all would be lazy none is, though one made more than the other.
func TestLazyAllAreNot(t *testing.T) {
	x := staked(t, two(1000))
	makeBlocksOf(t, x, 0, 4)
	makeBlocksOf(t, x, 1, 1)
	checkNext(t, x, 0)
	checkSee(t, x, 0, api.Account{Locked: 1080, Bid: 1080, Seats: 1}, api.OK)
	checkSee(t, x, 1, api.Account{Locked: 1021, Bid: 1021, Seats: 1}, api.OK)
	checkState(t, x, api.State{Epoch: 2, Supply: 2201, Treasury: 100, Price: 1021})
}

// Who is slashed is not among those of whom one must not be lazy.
func TestLazyBesideSlashedIsNot(t *testing.T) {
	x := staked(t, two(1000))
	makeBlocksOf(t, x, 0, 5)
	makeBlocksOf(t, x, 1, 1)
	checkSlash(t, x, 0, api.OK)
	checkNext(t, x, 0)
	checkSee(t, x, 0, api.Account{Queued: 500}, api.OK)
	checkSee(t, x, 1, api.Account{Locked: 1016, Bid: 1016, Seats: 2}, api.OK)
	checkState(t, x, api.State{Epoch: 2, Supply: 1651, Treasury: 135, Price: 508})
}

// Who has no turn was not lazy, and so the others are: this needs no block.
func TestLazyBesideOneWhoWasNotAsked(t *testing.T) {
	c := two(1)
	c.Length = 1
	x := staked(t, c)
	checkLeader(t, x, 0, 1, api.OK)
	checkNext(t, x, 0)
	checkSee(t, x, 0, api.Account{Locked: 1000, Bid: 1000, Seats: 2}, api.OK)
	checkSee(t, x, 1, api.Account{Queued: 1001}, api.OK)
	checkDue(t, x, 1, 4, 1001, api.OK)
	checkState(t, x, api.State{Epoch: 2, Supply: 2201, Treasury: 200, Price: 500})
}

// Who has no seat is neither lazy nor slashed nor paid, and makes nobody lazy.
func TestWithoutASeatNothingHappens(t *testing.T) {
	c := api.Config{Seats: 2, Delay: 2, Rate: 100, Length: 4, Need: 1000, Start: []int{50, 50, 50}}
	x := staked(t, c)
	checkSee(t, x, 2, api.Account{Locked: 50, Bid: 50}, api.OK)
	checkSlash(t, x, 2, api.ErrNone)
	checkNext(t, x, 0)
	checkSee(t, x, 0, api.Account{Locked: 50, Bid: 50, Seats: 1}, api.OK)
	checkSee(t, x, 1, api.Account{Locked: 50, Bid: 50, Seats: 1}, api.OK)
	checkSee(t, x, 2, api.Account{Locked: 50, Bid: 50}, api.OK)
	checkState(t, x, api.State{Epoch: 2, Supply: 165, Treasury: 15, Price: 50})
}

func TestBurntIsHalfRoundedDown(t *testing.T) {
	for _, locked := range []int{1, 2, 3, 100, 101, api.MaxStart} {
		x := staked(t, api.Config{Seats: 1, Delay: 4, Length: 1, Start: []int{locked}})
		checkSlash(t, x, 0, api.OK)
		checkNext(t, x, 0)
		left := locked - locked/2
		checkSee(t, x, 0, api.Account{Queued: left}, api.OK)
		checkDue(t, x, 0, 5, left, api.OK)
		checkState(t, x, api.State{Epoch: 2, Supply: left})
	}
}

// What is liquid or queued is not burnt, nor what was bid back already but is still locked.
func TestBurntIsOfTheLockedAlone(t *testing.T) {
	x := staked(t, two(0))
	x.rules.rate = 0
	x.accounts[0].liquid = 70
	x.accounts[0].queue[2] = 9
	checkBid(t, x, 0, 200, api.OK)
	checkSlash(t, x, 0, api.OK)
	checkNext(t, x, 0)
	checkSee(t, x, 0, api.Account{Liquid: 70, Queued: 509}, api.OK)
	checkDue(t, x, 0, 4, 509, api.OK)
}

func TestNewMoneyIsShared(t *testing.T) {
	for _, m := range []struct {
		rate, cut, made0, made1     int
		fresh, paid0, paid1, toRest int
	}{
		{0, 0, 5, 5, 0, 0, 0, 0},
		{1, 0, 5, 5, 2, 1, 1, 0},
		{100, 0, 5, 5, 200, 100, 100, 0},
		{100, 1000, 5, 5, 200, 0, 0, 200},
		{100, 999, 5, 5, 200, 0, 0, 200},
		{100, 995, 5, 5, 200, 0, 0, 200},
		{100, 994, 5, 5, 200, 1, 1, 198},
		{100, 500, 3, 4, 200, 30, 40, 130},
		{99, 333, 3, 4, 198, 39, 53, 106},
		{37, 1, 1, 5, 74, 7, 37, 30},
		{37, 999, 5, 5, 74, 0, 0, 74},
		{100, 0, 0, 0, 200, 0, 0, 200},
	} {
		c := two(0)
		c.Rate = m.rate
		c.Cut = m.cut
		x := staked(t, c)
		makeBlocksOf(t, x, 0, m.made0)
		makeBlocksOf(t, x, 1, m.made1)
		checkNext(t, x, 0)
		checkSee(t, x, 0, api.Account{Locked: 1000 + m.paid0, Bid: 1000 + m.paid0, Seats: 1}, api.OK)
		checkSee(t, x, 1, api.Account{Locked: 1001 + m.paid1, Bid: 1001 + m.paid1, Seats: 1}, api.OK)
		if s := x.State(); s.Supply != 2001+m.fresh || s.Treasury != m.toRest {
			t.Errorf("P8: State with %+v = %+v", m, s)
		}
	}
}

// Liquid, locked and queued amounts and the treasury's all count, and what was burnt does not.
func TestNewMoneyIsOfTheWholeSupply(t *testing.T) {
	x := staked(t, two(0))
	x.accounts[0].liquid = 300
	x.accounts[1].queue[1] = 4000
	x.accounts[2].queue[0] = 20
	x.treasury = 50000
	checkSlash(t, x, 1, api.OK)
	checkNext(t, x, 0)
	supply := 2001 + 300 + 4000 + 20 + 50000 - 500
	if s := x.State(); s.Supply != supply+supply/10 || s.Treasury != 50000+supply/10 {
		t.Errorf("P8: State = %+v, want supply %d", s, supply+supply/10)
	}
}

func TestNewMoneyAtTheGreatestSupply(t *testing.T) {
	for _, m := range []struct{ supply, rate, fresh int }{
		{2001, 100, 200}, {api.MaxSupply, 100, 0}, {api.MaxSupply, 0, 0}, {api.MaxSupply - 1, 100, 1}, {api.MaxSupply - 1, 1, 1},
		{api.MaxSupply - 1, 0, 0}, {909090909, 100, 90909090}, {909090910, 100, 90909090}, {909090911, 100, 90909089},
		{909090909 - 9, 100, 90909090}, {api.MaxSupply - 999000, 1, 999000}, {api.MaxSupply - 999001, 1, 999000},
	} {
		for _, cut := range []int{0, 1, 500, api.Whole - 1, api.Whole} {
			c := two(0)
			c.Rate = m.rate
			c.Cut = cut
			x := staked(t, c)
			makeBlocks(t, x, 10)
			x.treasury = m.supply - 2001
			checkNext(t, x, 0)
			paid := (m.fresh - m.fresh*cut/1000) * 5 / 10
			checkSee(t, x, 0, api.Account{Locked: 1000 + paid, Bid: 1000 + paid, Seats: 1}, api.OK)
			if s := x.State(); s.Supply != m.supply+m.fresh || s.Treasury != m.supply-2001+m.fresh-2*paid {
				t.Errorf("P8: State at %+v and cut %d = %+v", m, cut, s)
			}
		}
	}
}

// What was burnt makes room for new money.
func TestNewMoneyBehindBurning(t *testing.T) {
	x := staked(t, two(0))
	x.treasury = api.MaxSupply - 2001
	checkSlash(t, x, 0, api.OK)
	checkSlash(t, x, 1, api.OK)
	checkNext(t, x, 0)
	checkState(t, x, api.State{Epoch: 2, Supply: api.MaxSupply, Treasury: api.MaxSupply - 1001})
}

func TestSupplyGrowsToItsBound(t *testing.T) {
	x := mustNew(t, api.Config{Seats: 10, Delay: 5, Rate: 100, Cut: 100, Length: 20, Need: 500, Start: same(6, api.MaxStart)})
	supply := 6 * api.MaxStart
	for k := range 60 {
		for a := range 6 {
			x.Bid(a, x.accounts[a].locked+x.accounts[a].liquid)
		}
		if k > 0 {
			makeBlocks(t, x, 20)
		}
		checkNext(t, x, k)
		supply += min(supply/10, api.MaxSupply-supply)
		if s := x.State(); s.Supply != supply || s.Epoch != k+1 || s.Price < 1 {
			t.Fatalf("P8: State behind %d epochs = %+v, want supply %d", k+1, s, supply)
		}
	}
	if supply != api.MaxSupply {
		t.Errorf("P8: the supply is %d in the end", supply)
	}
}

// The bid grows by what is paid also if it is below what is locked: the rest is queued without the pay.
func TestPaidBehindALowerBid(t *testing.T) {
	x := staked(t, two(0))
	checkBid(t, x, 0, 500, api.OK)
	makeBlocks(t, x, 10)
	checkNext(t, x, 0)
	checkSee(t, x, 0, api.Account{Locked: 600, Bid: 600, Queued: 500, Seats: 1}, api.OK)
	checkDue(t, x, 0, 4, 500, api.OK)
	checkSee(t, x, 1, api.Account{Locked: 1101, Bid: 1101, Seats: 1}, api.OK)
	checkState(t, x, api.State{Epoch: 2, Supply: 2201, Price: 600})
}
