package seats

// sharesFor is how many shares an amount brings that is given to the pool now.
func (x *Chain) sharesFor(amount int) int {
	shares := x.allShares()
	if shares == 0 {
		return amount
	}
	has := x.accounts[x.people].all()
	return part(amount, shares, has)
}

// worthOf is what so many shares are worth now.
func (x *Chain) worthOf(shares int) int {
	has := x.accounts[x.people].all()
	all := x.allShares()
	return part(shares, has, all)
}

// part is as much of all as v is of whole. Amounts and shares are so small that the product is an int.
func part(v int, all int, whole int) int {
	// While there are shares the pool has something: so this is for the division's sake alone.
	if whole < 1 {
		return 0
	}
	return v * all / whole
}
