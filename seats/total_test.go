package seats

import (
	"math"
	"testing"

	"seats/api"
)

// refused checks what holds of every call of a chain: with an error nothing else is told and nothing has changed.
func refused(t *testing.T, name string, x *Chain, before Chain, result int, e api.Errno) {
	t.Helper()
	if e < api.OK || e > api.ErrAgain {
		t.Fatalf("P1: %s tells the error %d, which is none", name, e)
	}
	if e != api.OK && (result != 0 || *x != before) {
		t.Fatalf("P1: %s tells the error %d, the result %d, and the chain %+v, was %+v", name, e, result, *x, before)
	}
}

func sweepOne(t *testing.T, x *Chain, v int) {
	before := *x
	seen, e := x.See(v)
	if e != api.OK && seen != (api.Account{}) {
		t.Fatalf("P1: See(%d) = %+v, %d", v, seen, e)
	}
	refused(t, "See", x, before, 0, e)
	before = *x
	leader, e := x.Leader(v)
	refused(t, "Leader", x, before, leader, e)
	before = *x
	e = x.Make(v)
	refused(t, "Make", x, before, 0, e)
	before = *x
	e = x.Slash(v)
	refused(t, "Slash", x, before, 0, e)
	if e := x.Next(v); e != api.OK {
		t.Fatalf("P1: Next(%d) = %d", v, e)
	}
}

func sweepTwo(t *testing.T, x *Chain, v int, w int) {
	before := *x
	due, e := x.Due(v, w)
	refused(t, "Due", x, before, due, e)
	before = *x
	e = x.Bid(v, w)
	refused(t, "Bid", x, before, 0, e)
	before = *x
	given, e := x.Deposit(v, w)
	refused(t, "Deposit", x, before, given, e)
	before = *x
	worth, e := x.Leave(v, w)
	refused(t, "Leave", x, before, worth, e)
}

func TestCallsOfAChainAtAllEdges(t *testing.T) {
	for _, c := range []api.Config{
		{Seats: 2, Delay: 2, Rate: 100, Cut: 100, Length: 10, Need: 500, Start: []int{0}},
		example(),
		{Seats: 1, Delay: 2, Length: 1, Start: []int{7}},
		{Seats: 10, Delay: 5, Rate: 100, Cut: 1000, Length: 20, Need: 1000, Start: []int{10000000, 1, 2, 3, 4, 10000000}},
	} {
		x := mustNew(t, c)
		for _, v := range edges {
			for _, w := range edges {
				sweepTwo(t, x, v, w)
				for _, amount := range edges {
					before := *x
					e := x.Send(v, w, amount)
					refused(t, "Send", x, before, 0, e)
				}
			}
			sweepOne(t, x, v)
		}
	}
}

func TestPriceAndNewAtAllEdges(t *testing.T) {
	for _, length := range []int{0, 1, 2, 6, 7, 16, 17, 1000} {
		for _, v := range edges {
			list := same(length, v)
			for _, n := range edges {
				p, e := Price(list, n)
				if (e == api.OK) != (p >= 1) || e != api.OK && p != 0 {
					t.Errorf("P1: Price of %d times %d, for %d = %d, %d", length, v, n, p, e)
				}
				c := api.Config{Seats: n, Delay: n, Rate: n, Cut: n, Length: n, Need: n, Start: list}
				x, e := New(c)
				if (e == api.OK) != (x != nil) {
					t.Errorf("P1: New(%+v) = %v, %d", c, x, e)
				}
			}
		}
	}
}

func TestLongListsEnd(t *testing.T) {
	for _, v := range []int{math.MinInt, 0, 1, math.MaxInt} {
		list := same(5000000, v)
		if p, e := Price(list, 1); p != 0 || e != api.ErrSeats {
			t.Errorf("P1: Price of a long list = %d, %d", p, e)
		}
		c := example()
		c.Start = list
		if x, e := New(c); x != nil || e != api.ErrConfig {
			t.Errorf("P1: New with a long list = %v, %d", x, e)
		}
	}
}
