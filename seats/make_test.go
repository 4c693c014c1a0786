package seats

import (
	"math"
	"slices"
	"testing"

	"seats/api"
)

func checkMake(t *testing.T, x *Chain, height int, err api.Errno) {
	t.Helper()
	if e := x.Make(height); e != err {
		t.Errorf("P9: Make(%d) = %d, want %d", height, e, err)
	}
}

// makeBlocks makes the blocks of all heights up to below count.
func makeBlocks(t *testing.T, x *Chain, count int) {
	t.Helper()
	for height := range count {
		checkMake(t, x, height, api.OK)
	}
}

// makeBlocksOf makes the first so many blocks of an account.
func makeBlocksOf(t *testing.T, x *Chain, a int, count int) {
	t.Helper()
	for height := range x.rules.length {
		if leader, e := x.Leader(height); count > 0 && e == api.OK && leader == a {
			checkMake(t, x, height, api.OK)
			count--
		}
	}
}

func TestMakeOfTheExample(t *testing.T) {
	x := mustNew(t, example())
	checkMake(t, x, 0, api.ErrNone)
	x = exampleBehindOne(t)
	for height := range 5 {
		checkMake(t, x, height, api.OK)
	}
	checkMake(t, x, 4, api.ErrAgain)
	checkMake(t, x, 10, api.ErrHeight)
	checkMake(t, x, -1, api.ErrHeight)
	checkMake(t, x, 9, api.OK)
}

// A block is made once at each height, and before the epoch ends nothing else comes of it.
func TestMakeAtEveryHeight(t *testing.T) {
	for length := 1; length <= api.MaxLength; length++ {
		x := oneSeatEach(t, 6, 10, length, 1)
		want := *x
		for _, height := range append([]int{length - 1}, edges...) {
			switch {
			case height < 0 || height >= length:
				checkMake(t, x, height, api.ErrHeight)
			case want.blocks[height]:
				checkMake(t, x, height, api.ErrAgain)
			default:
				checkMake(t, x, height, api.OK)
				want.blocks[height] = true
			}
			checkChain(t, "P9", x, want)
		}
		checkTurns(t, x, length, []int{5, 3, 0, 4, 2, 5, 5, 1, 5, 5})
	}
}

// The first and the last heights, and the numbers beside them, on the shortest and the longest epoch.
func TestMakeAtTheBounds(t *testing.T) {
	for _, length := range []int{1, 2, api.MaxLength} {
		x := oneSeatEach(t, 2, 2, length, 0)
		for _, height := range []int{math.MinInt, -length, -1, length, length + 1, math.MaxInt} {
			checkMake(t, x, height, api.ErrHeight)
		}
		checkMake(t, x, length-1, api.OK)
		for _, height := range []int{math.MinInt, -length, -1, length, length + 1, math.MaxInt} {
			checkMake(t, x, height, api.ErrHeight)
		}
		checkMake(t, x, length-1, api.ErrAgain)
		checkMake(t, x, length-1, api.ErrAgain)
	}
}

// One seat is enough, and all heights are its owner's.
func TestMakeOfOneSeat(t *testing.T) {
	x := staked(t, api.Config{Seats: 1, Delay: 2, Rate: 100, Length: 7, Need: 1000, Start: []int{10, 700}})
	makeBlocks(t, x, 7)
	checkMake(t, x, 7, api.ErrHeight)
	checkMake(t, x, 6, api.ErrAgain)
	checkNext(t, x, 0)
	checkSee(t, x, 1, api.Account{Locked: 771, Bid: 771, Seats: 1}, api.OK)
	checkState(t, x, api.State{Epoch: 2, Supply: 781, Price: 771})
}

// Of two errors ErrHeight is named first; and a chain whose seats are all lost is as one that never sold any.
func TestMakeIfNobodyHasASeat(t *testing.T) {
	for length := 1; length <= api.MaxLength; length++ {
		x := mustNew(t, api.Config{Seats: 3, Delay: 2, Length: length, Start: []int{9, 9}})
		checkNobodyMakes(t, x, length)
		checkNext(t, x, 1)
		checkNobodyMakes(t, x, length)
		checkBid(t, x, 1, 9, api.OK)
		checkNobodyMakes(t, x, length)
		checkNext(t, x, 1)
		makeBlocks(t, x, length)
		checkBid(t, x, 1, 2, api.OK)
		checkNext(t, x, 1)
		checkNobodyMakes(t, x, length)
	}
}

func checkNobodyMakes(t *testing.T, x *Chain, length int) {
	t.Helper()
	before := *x
	for _, height := range append([]int{length - 1, length}, edges...) {
		want := api.ErrNone
		if height < 0 || height >= length {
			want = api.ErrHeight
		}
		checkMake(t, x, height, want)
	}
	checkChain(t, "P1", x, before)
}

// A block is its leader's: who leads the height is paid for it, and nobody else.
func TestMakeIsPaidToTheLeader(t *testing.T) {
	row := []int{5, 3, 0, 4, 2, 5, 5, 1, 5, 5}
	for height := range 20 {
		x := oneSeatEach(t, 6, 10, 20, 1)
		x.rules.rate = api.MaxRate
		checkMake(t, x, height, api.OK)
		checkNext(t, x, 0)
		// All have 600: 60 are new, of which each height is 3.
		for a := range 6 {
			want := 10
			if a == 5 {
				want = 50
			}
			if a == row[height%10] {
				want += 3
			}
			if s, e := x.See(a); s.Locked != want || s.Bid != want || e != api.OK {
				t.Errorf("P8: behind Make(%d) See(%d) = %+v, %d, want %d locked", height, a, s, e, want)
			}
		}
		if s := x.State(); s.Supply != 660 || s.Treasury != 57 {
			t.Errorf("P8: behind Make(%d) State = %+v", height, s)
		}
	}
}

// A block that is refused as already there is not counted once more.
func TestMakeAgainIsNotPaid(t *testing.T) {
	x := staked(t, two(0))
	for range 7 {
		x.Make(0)
		x.Make(1)
	}
	checkNext(t, x, 0)
	checkSee(t, x, 0, api.Account{Locked: 1020, Bid: 1020, Seats: 1}, api.OK)
	checkSee(t, x, 1, api.Account{Locked: 1021, Bid: 1021, Seats: 1}, api.OK)
	checkState(t, x, api.State{Epoch: 2, Supply: 2201, Treasury: 160, Price: 1020})
}

func TestMakeInAnyOrder(t *testing.T) {
	want := staked(t, two(600))
	makeBlocks(t, want, 7)
	for _, heights := range [][]int{{6, 5, 4, 3, 2, 1, 0}, {3, 0, 6, 2, 5, 1, 4}, {1, 3, 5, 0, 2, 4, 6}} {
		x := staked(t, two(600))
		for _, height := range heights {
			checkMake(t, x, height, api.OK)
		}
		checkChain(t, "P9", x, *want)
	}
}

// The next epoch has no blocks: each can be made there, and none is paid if it is not.
func TestMakeIsForgotten(t *testing.T) {
	x := staked(t, two(0))
	makeBlocks(t, x, 10)
	checkNext(t, x, 0)
	checkSee(t, x, 0, api.Account{Locked: 1100, Bid: 1100, Seats: 1}, api.OK)
	checkSee(t, x, 1, api.Account{Locked: 1101, Bid: 1101, Seats: 1}, api.OK)
	y := *x
	makeBlocks(t, &y, 10)
	checkNext(t, x, 0)
	checkSee(t, x, 0, api.Account{Locked: 1100, Bid: 1100, Seats: 1}, api.OK)
	checkState(t, x, api.State{Epoch: 3, Supply: 2421, Treasury: 220, Price: 1100})
	checkNext(t, &y, 0)
	checkSee(t, &y, 0, api.Account{Locked: 1210, Bid: 1210, Seats: 1}, api.OK)
	checkState(t, &y, api.State{Epoch: 3, Supply: 2421, Price: 1210})
}

// Blocks of the epoch before do not help against being lazy.
func TestMakeIsForgottenByTheNeed(t *testing.T) {
	x := staked(t, two(1000))
	makeBlocks(t, x, 10)
	checkNext(t, x, 0)
	makeBlocksOf(t, x, 1, 5)
	checkNext(t, x, 0)
	checkSee(t, x, 0, api.Account{Queued: 1100}, api.OK)
	checkDue(t, x, 0, 5, 1100, api.OK)
	checkSee(t, x, 1, api.Account{Locked: 1211, Bid: 1211, Seats: 2}, api.OK)
}

func TestMakeOnOneChainAlone(t *testing.T) {
	chains := []*Chain{}
	for range 3 {
		chains = append(chains, exampleBehindOne(t))
	}
	before := *chains[0]
	makeBlocks(t, chains[1], 10)
	checkChain(t, "P2", chains[0], before)
	checkChain(t, "P2", chains[2], before)
	checkNext(t, chains[1], 3)
	checkChain(t, "P2", chains[0], before)
	makeBlocks(t, chains[2], 4)
	makeBlocks(t, chains[0], 5)
	checkNext(t, chains[0], 0)
	checkNext(t, chains[2], 0)
	locked := []int{}
	for _, x := range chains {
		locked = append(locked, x.accounts[0].locked)
	}
	if !slices.Equal(locked, []int{674, 749, 659}) {
		t.Errorf("P2: account 0 has locked %v", locked)
	}
}
