// Package seats: a chain of blocks in epochs: who may make them, by stake, and a pool: see DOC.md.
package seats

import "seats/api"

// Chain is a chain.
//
// It holds arrays and no slices, so that no two chains can share anything.
type Chain struct {
	people   int // N: the accounts but the pool, whose number this is
	rules    rules
	epoch    int
	treasury int
	price    int
	accounts [api.MaxAccounts + 1]account
	turns    turns
	blocks   [api.MaxLength]bool // of each height of this epoch, whether it has a block
}

// Price tells the price of a seat (P3).
func Price(stakes []int, n int) (int, api.Errno) {
	if !mayBeSold(stakes, n) {
		return 0, api.ErrSeats
	}
	if !sellsOut(stakes, 1, n) {
		return 0, api.ErrFew
	}
	return greatestPrice(stakes, n), api.OK
}

// New makes a chain (P4).
func New(c api.Config) (*Chain, api.Errno) {
	if !numbersFit(c) || !startFits(c.Start) {
		return nil, api.ErrConfig
	}
	x := &Chain{people: len(c.Start), rules: rulesOf(c)}
	for i, amount := range c.Start {
		x.accounts[i].liquid = amount
	}
	return x, api.OK
}

// See tells what an account has (P5).
func (x *Chain) See(a int) (api.Account, api.Errno) {
	if !x.isAccount(a) {
		return api.Account{}, api.ErrName
	}
	return x.accounts[a].seen(), api.OK
}

// State tells of the whole chain (P5).
func (x *Chain) State() api.State {
	return api.State{
		Epoch:    x.epoch,
		Supply:   x.supply(),
		Treasury: x.treasury,
		Price:    x.price,
		Shares:   x.allShares(),
	}
}

// Due tells what comes back to an account at the beginning of an epoch (P5).
func (x *Chain) Due(a int, epoch int) (int, api.Errno) {
	if !x.isAccount(a) {
		return 0, api.ErrName
	}
	// Tested before the subtraction, which could overflow at epochs below 0.
	if epoch <= x.epoch {
		return 0, api.OK
	}
	return x.accounts[a].dueIn(epoch - x.epoch), api.OK
}

// Send moves what is liquid (P6).
func (x *Chain) Send(a int, b int, amount int) api.Errno {
	if !x.isPerson(a) || !x.isPerson(b) {
		return api.ErrName
	}
	if !within(amount, 1, api.MaxSupply) {
		return api.ErrAmount
	}
	if x.accounts[a].liquid < amount {
		return api.ErrFunds
	}
	x.accounts[a].liquid -= amount
	x.accounts[b].liquid += amount
	return api.OK
}

// Bid tells how much an account will have locked (P7).
func (x *Chain) Bid(a int, amount int) api.Errno {
	if !x.isPerson(a) {
		return api.ErrName
	}
	if !within(amount, 0, api.MaxSupply) {
		return api.ErrAmount
	}
	c := &x.accounts[a]
	more := amount - c.locked
	if more > c.liquid {
		return api.ErrFunds
	}
	// A bid below what is locked frees nothing yet: that is for the end of the epoch.
	if more > 0 {
		c.liquid -= more
		c.locked += more
	}
	c.bid = amount
	return api.OK
}

// Next ends an epoch (P8). Each call in it is one step, in the document's order.
func (x *Chain) Next(seed int) api.Errno {
	due := x.epoch + x.rules.delay
	judged := x.judge()
	x.burn(judged)
	x.pay(judged)
	x.dismiss(judged, due)
	x.begin()
	x.lockPool()
	x.lowerToBids(due)
	x.sell(due)
	x.draw(seed)
	return api.OK
}

// Leader tells whose turn a height is (P9).
func (x *Chain) Leader(height int) (int, api.Errno) {
	if !x.isHeight(height) {
		return 0, api.ErrHeight
	}
	if x.turns.length < 1 {
		return 0, api.ErrNone
	}
	return x.turns.row[height%x.turns.length], api.OK
}

// Make makes the block of a height (P9).
func (x *Chain) Make(height int) api.Errno {
	if !x.isHeight(height) {
		return api.ErrHeight
	}
	if x.turns.length < 1 {
		return api.ErrNone
	}
	if x.blocks[height] {
		return api.ErrAgain
	}
	x.blocks[height] = true
	return api.OK
}

// Slash tells of an account that has cheated (P10). It loses nothing before the epoch ends.
func (x *Chain) Slash(a int) api.Errno {
	if !x.isAccount(a) {
		return api.ErrName
	}
	if x.accounts[a].seats < 1 {
		return api.ErrNone
	}
	x.accounts[a].cheated = true
	return api.OK
}

// Deposit gives to the pool, for shares (P11).
func (x *Chain) Deposit(a int, amount int) (int, api.Errno) {
	if !x.isPerson(a) {
		return 0, api.ErrName
	}
	if !within(amount, 1, api.MaxSupply) {
		return 0, api.ErrAmount
	}
	if x.accounts[a].liquid < amount {
		return 0, api.ErrFunds
	}
	shares := x.sharesFor(amount)
	if shares < 1 {
		return 0, api.ErrSmall
	}
	if x.allShares() > api.MaxShares-shares {
		return 0, api.ErrFull
	}
	x.accounts[a].liquid -= amount
	x.accounts[x.people].locked += amount
	x.accounts[a].shares += shares
	return shares, api.OK
}

// Leave gives shares back (P11).
func (x *Chain) Leave(a int, shares int) (int, api.Errno) {
	if !x.isPerson(a) {
		return 0, api.ErrName
	}
	if !within(shares, 1, api.MaxShares) {
		return 0, api.ErrAmount
	}
	if x.accounts[a].shares < shares {
		return 0, api.ErrFunds
	}
	worth := x.worthOf(shares)
	if worth < 1 {
		return 0, api.ErrSmall
	}
	if x.accounts[x.people].locked < worth {
		return 0, api.ErrBusy
	}
	x.accounts[a].shares -= shares
	x.accounts[x.people].locked -= worth
	x.accounts[a].await(worth, x.rules.delay)
	return worth, api.OK
}
