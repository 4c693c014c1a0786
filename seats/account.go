package seats

import "seats/api"

// account is what an account has. The pool is one too; those that the chain has not are all noughts.
type account struct {
	liquid, locked, bid, seats, shares int
	// queue[k] comes back k + 1 epochs from now: nothing is ever due later than in MaxDelay epochs.
	queue [api.MaxDelay]int
}

// queued is all that comes back to the account later.
func (c *account) queued() int {
	sum := 0
	for _, amount := range c.queue {
		sum += amount
	}
	return sum
}

// dueIn is what comes back so many epochs from now.
func (c *account) dueIn(epochs int) int {
	if !within(epochs, 1, api.MaxDelay) {
		return 0
	}
	return c.queue[epochs-1]
}

// seen is the account as See tells it.
func (c *account) seen() api.Account {
	return api.Account{
		Liquid: c.liquid,
		Locked: c.locked,
		Bid:    c.bid,
		Queued: c.queued(),
		Seats:  c.seats,
		Shares: c.shares,
	}
}

// isAccount tells whether a is an account's number, the pool's with them.
func (x *Chain) isAccount(a int) bool {
	return within(a, 0, x.people)
}

// isPerson tells whether a is the number of an account that is not the pool.
func (x *Chain) isPerson(a int) bool {
	return within(a, 0, x.people-1)
}

// supply is counted anew each time, so that it cannot come apart from what the accounts have.
func (x *Chain) supply() int {
	sum := x.treasury
	for i := range x.accounts {
		c := &x.accounts[i]
		sum += c.liquid + c.locked
		sum += c.queued()
	}
	return sum
}

// allShares is the shares of all accounts together.
func (x *Chain) allShares() int {
	sum := 0
	for i := range x.accounts {
		sum += x.accounts[i].shares
	}
	return sum
}
