package seats

import "seats/api"

// standing is what comes of an account at the end of an epoch.
type standing int

const (
	seatless standing = iota
	diligent
	lazy
	slashed
)

// standings are those of all accounts, the pool with them.
type standings [api.MaxAccounts + 1]standing

// judge tells how all accounts stand when the epoch ends (step 1 of P8).
func (x *Chain) judge() standings {
	var all standings
	anyDiligent := false
	for a := range x.accounts {
		s := x.standingOf(a)
		all[a] = s
		anyDiligent = anyDiligent || s == diligent
	}
	if anyDiligent {
		return all
	}
	return forgiven(all)
}

// standingOf looks at the one account, before what the others did can help it.
func (x *Chain) standingOf(a int) standing {
	c := &x.accounts[a]
	if c.seats < 1 {
		return seatless
	}
	if c.cheated {
		return slashed
	}
	made := x.made(a)
	asked := x.asked(a)
	if made*api.Whole < x.rules.need*asked {
		return lazy
	}
	return diligent
}

// forgiven takes as diligent all that would be lazy.
func forgiven(all standings) standings {
	for a := range all {
		if all[a] == lazy {
			all[a] = diligent
		}
	}
	return all
}
