package seats

import "seats/api"

// burn takes half of what each slashed account has locked: nobody gets it (step 2 of P8).
func (x *Chain) burn(judged standings) {
	for a, s := range judged {
		if s == slashed {
			c := &x.accounts[a]
			c.locked -= c.locked / 2
		}
	}
}

// newMoney is how much is made at the end of this epoch.
func (x *Chain) newMoney() int {
	supply := x.supply()
	fresh := supply * x.rules.rate / api.Whole
	room := api.MaxSupply - supply
	if fresh > room {
		return room
	}
	return fresh
}

// pay gives out the new money (step 3 of P8).
func (x *Chain) pay(judged standings) {
	fresh := x.newMoney()
	rest := fresh - fresh*x.rules.cut/api.Whole
	for a, s := range judged {
		if s == diligent {
			paid := rest * x.made(a) / x.rules.length
			x.reward(a, paid)
			fresh -= paid
		}
	}
	// The cut is in it, and all that nobody has earned.
	x.treasury += fresh
}

// reward locks what an account is paid. The pool has no bid that could grow.
func (x *Chain) reward(a int, paid int) {
	c := &x.accounts[a]
	c.locked += paid
	if x.isPerson(a) {
		c.bid += paid
	}
}

// dismiss queues all that the slashed and the lazy have locked (step 4 of P8).
func (x *Chain) dismiss(judged standings, due int) {
	for a, s := range judged {
		if s == slashed || s == lazy {
			x.accounts[a].quit(due - x.epoch)
		}
	}
}

// begin goes on to the next epoch: what is due then comes back (step 5 of P8).
func (x *Chain) begin() {
	x.epoch++
	for a := range x.accounts {
		x.accounts[a].comeBack()
	}
}

// lockPool locks all that the pool has liquid (step 6 of P8).
func (x *Chain) lockPool() {
	pool := &x.accounts[x.people]
	pool.locked += pool.liquid
	pool.liquid = 0
}

// lowerToBids queues what each account but the pool has locked above its bid (step 7 of P8).
func (x *Chain) lowerToBids(due int) {
	for a := 0; a < x.people; a++ {
		c := &x.accounts[a]
		above := c.locked - c.bid
		if above > 0 {
			c.unlock(above, due-x.epoch)
		}
	}
}

// sell gives the seats of the epoch that begins (step 8 of P8).
func (x *Chain) sell(due int) {
	stakes := x.stakes()
	price, err := Price(stakes, x.rules.seats)
	// At the price 0 no seat is given below, and nobody has locked less.
	if err != api.OK {
		price = 0
	}
	x.price = price
	left := x.rules.seats
	for a := range x.accounts {
		c := &x.accounts[a]
		c.seats = seatsFor(c.locked, price, left)
		left -= c.seats
		if c.locked < price {
			c.quit(due - x.epoch)
		}
	}
}

// stakes lists what all accounts have locked, the pool with them.
func (x *Chain) stakes() []int {
	stakes := []int{}
	for a := range x.accounts {
		stakes = append(stakes, x.accounts[a].locked)
	}
	return stakes
}

// seatsFor is how many of the seats that are left an account gets.
func seatsFor(locked int, price int, left int) int {
	if price < 1 {
		return 0
	}
	seats := locked / price
	if seats > left {
		return left
	}
	return seats
}
