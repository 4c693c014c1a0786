package seats

import (
	"fmt"
	"math"
	"slices"
	"testing"

	"seats/api"
)

// bound is a number of the config, and how far it may go.
type bound struct {
	name      string
	low, high int
	set       func(c *api.Config, v int)
}

var bounds = []bound{
	{"Seats", 1, 10, func(c *api.Config, v int) { c.Seats = v }},
	{"Delay", 2, 5, func(c *api.Config, v int) { c.Delay = v }},
	{"Rate", 0, 100, func(c *api.Config, v int) { c.Rate = v }},
	{"Cut", 0, 1000, func(c *api.Config, v int) { c.Cut = v }},
	{"Length", 1, 20, func(c *api.Config, v int) { c.Length = v }},
	{"Need", 0, 1000, func(c *api.Config, v int) { c.Need = v }},
	{"Start's first", 0, 10000000, func(c *api.Config, v int) { c.Start[0] = v }},
	{"Start's last", 0, 10000000, func(c *api.Config, v int) { c.Start[len(c.Start)-1] = v }},
}

func checkNew(t *testing.T, name string, c api.Config, good bool) {
	t.Helper()
	x, e := New(c)
	if good && (x == nil || e != api.OK) {
		t.Errorf("P4: %s: New = %v, %d, want a chain", name, x, e)
	}
	if !good && (x != nil || e != api.ErrConfig) {
		t.Errorf("P4: %s: New = %v, %d, want nil, ErrConfig", name, x, e)
	}
}

func TestNewAtEveryBound(t *testing.T) {
	for _, b := range bounds {
		for _, v := range append([]int{b.low - 1, b.low, b.low + 1, b.high - 1, b.high, b.high + 1}, edges...) {
			c := example()
			b.set(&c, v)
			checkNew(t, fmt.Sprint(b.name, " ", v), c, v >= b.low && v <= b.high)
		}
	}
}

func TestNewWithSeveralWrongNumbers(t *testing.T) {
	for _, b := range bounds {
		for _, d := range bounds {
			c := example()
			b.set(&c, math.MaxInt)
			d.set(&c, math.MinInt)
			checkNew(t, b.name+" and "+d.name, c, false)
		}
	}
	checkNew(t, "all noughts", api.Config{}, false)
}

func TestNewWithListsOfEveryLength(t *testing.T) {
	for _, n := range []int{0, 1, 2, 3, 4, 5, 6, 7, 8, 1000000} {
		c := example()
		c.Start = same(n, 3)
		checkNew(t, fmt.Sprint("entries: ", n), c, n >= 1 && n <= 6)
	}
	c := example()
	c.Start = nil
	checkNew(t, "no list", c, false)
	c.Start = []int{0, 0, -1, 0, 0, 0}
	checkNew(t, "a wrong one in the middle", c, false)
	c.Start = append(same(6, 0), -1)
	checkNew(t, "a wrong one too many", c, false)
}

func TestNewChainHasItsStartAndNothingElse(t *testing.T) {
	for _, start := range [][]int{{0}, {10000000}, {1000, 500}, {1, 0, 2, 3}, {10000000, 9, 8, 7, 0, 10000000}} {
		c := example()
		c.Start = start
		x := mustNew(t, c)
		all := 0
		for i, amount := range start {
			all += amount
			checkSee(t, x, i, api.Account{Liquid: amount}, api.OK)
		}
		checkSee(t, x, len(start), api.Account{}, api.OK)
		checkSee(t, x, len(start)+1, api.Account{}, api.ErrName)
		if s := x.State(); s != (api.State{Supply: all}) {
			t.Errorf("P4: State of a new chain = %+v, want supply %d alone", s, all)
		}
		for a := range len(start) + 1 {
			for _, epoch := range edges {
				checkDue(t, x, a, epoch, 0, api.OK)
			}
		}
	}
}

func TestNewWritesNothing(t *testing.T) {
	for _, start := range [][]int{{}, {5}, {1000, 500}, {1000, -1}, same(6, 9), same(7, 9)} {
		list, all := behind(start)
		before := slices.Clone(all)
		c := example()
		c.Start = list
		x, e := New(c)
		if e == api.OK {
			x.Send(0, len(start)-1, 1)
			x.Send(len(start)-1, 0, 2)
		}
		if !slices.Equal(all, before) {
			t.Errorf("P2: New with Start %v left %v, was %v", start, all, before)
		}
	}
}

func TestNewKeepsNoList(t *testing.T) {
	list, all := behind([]int{1000, 500})
	c := example()
	c.Start = list
	x := mustNew(t, c)
	for i := range all {
		all[i] = 9
	}
	checkSee(t, x, 0, api.Account{Liquid: 1000}, api.OK)
	checkSee(t, x, 1, api.Account{Liquid: 500}, api.OK)
	checkSee(t, x, 2, api.Account{}, api.OK)
	checkSend(t, x, 0, 1, 1000, api.OK)
	if s := x.State(); s != (api.State{Supply: 1500}) {
		t.Errorf("P2: State = %+v after the list was written into", s)
	}
}

func TestChainsAreApart(t *testing.T) {
	c := example()
	x := mustNew(t, c)
	y := mustNew(t, c)
	copied := *x
	checkSend(t, x, 0, 1, 400, api.OK)
	z := mustNew(t, c)
	for _, other := range []*Chain{y, z, &copied} {
		checkSee(t, other, 0, api.Account{Liquid: 1000}, api.OK)
		checkSee(t, other, 1, api.Account{Liquid: 500}, api.OK)
	}
	checkSend(t, y, 1, 0, 500, api.OK)
	checkSee(t, x, 0, api.Account{Liquid: 600}, api.OK)
	checkSee(t, x, 1, api.Account{Liquid: 900}, api.OK)
	checkSee(t, y, 0, api.Account{Liquid: 1500}, api.OK)
	checkSee(t, z, 0, api.Account{Liquid: 1000}, api.OK)
}

// What is bid and ended on one chain shows on no other, nor on a copy.
func TestChainsAreApartBehindBidAndNext(t *testing.T) {
	x := exampleBehindOne(t)
	y := mustNew(t, example())
	copied := *x
	checkNext(t, x, 3)
	checkBid(t, x, 1, 500, api.OK)
	checkNext(t, x, 0)
	checkTurns(t, x, 10, []int{1, 0})
	checkTurns(t, &copied, 10, []int{0})
	checkSee(t, &copied, 1, api.Account{Liquid: 300, Queued: 200}, api.OK)
	checkState(t, &copied, api.State{Epoch: 1, Supply: 1650, Treasury: 150, Price: 300})
	checkLiquid(t, y, 1000, 500)
	checkLeader(t, y, 0, 0, api.ErrNone)
}
