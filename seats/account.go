package seats

import "seats/api"

// account is what an account has. The pool is one too; those that the chain has not are all noughts.
type account struct {
	liquid, locked, bid, seats, shares int
	// queue[k] comes back k + 1 epochs from now: nothing is ever due later than in MaxDelay epochs.
	queue [api.MaxDelay]int
	// cheated: Slash was called for it in this epoch.
	cheated bool
}

// queued is all that comes back to the account later.
func (c *account) queued() int {
	sum := 0
	for _, amount := range c.queue {
		sum += amount
	}
	return sum
}

// all is whatever the account has, now or later.
func (c *account) all() int {
	return c.liquid + c.locked + c.queued()
}

// dueIn is what comes back so many epochs from now.
func (c *account) dueIn(epochs int) int {
	if !within(epochs, 1, api.MaxDelay) {
		return 0
	}
	return c.queue[epochs-1]
}

// await queues an amount, to come back so many epochs from now.
func (c *account) await(amount int, epochs int) {
	if !within(epochs, 1, api.MaxDelay) {
		return
	}
	c.queue[epochs-1] += amount
}

// unlock queues so much of what is locked.
func (c *account) unlock(amount int, epochs int) {
	c.locked -= amount
	c.await(amount, epochs)
}

// quit unlocks all, and the account bids no more.
func (c *account) quit(epochs int) {
	all := c.locked
	c.unlock(all, epochs)
	c.bid = 0
}

// comeBack makes liquid what is due in the next epoch; all behind it is then due one epoch sooner.
func (c *account) comeBack() {
	c.liquid += c.queue[0]
	last := api.MaxDelay - 1
	for k := 0; k < last; k++ {
		c.queue[k] = c.queue[k+1]
	}
	c.queue[last] = 0
}

// seen is the account as See tells it.
func (c *account) seen() api.Account {
	return api.Account{
		Liquid: c.liquid,
		Locked: c.locked,
		Bid:    c.bid,
		Queued: c.queued(),
		Seats:  c.seats,
		Shares: c.shares,
	}
}

// isAccount tells whether a is an account's number, the pool's with them.
func (x *Chain) isAccount(a int) bool {
	return within(a, 0, x.people)
}

// isPerson tells whether a is the number of an account that is not the pool.
func (x *Chain) isPerson(a int) bool {
	return within(a, 0, x.people-1)
}

// supply is counted anew each time, so that it cannot come apart from what the accounts have.
func (x *Chain) supply() int {
	sum := x.treasury
	for i := range x.accounts {
		sum += x.accounts[i].all()
	}
	return sum
}

// allShares is the shares of all accounts together.
func (x *Chain) allShares() int {
	sum := 0
	for i := range x.accounts {
		sum += x.accounts[i].shares
	}
	return sum
}
