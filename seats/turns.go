package seats

import "seats/api"

// modulus is what the numbers of the shuffle stay below.
const modulus = 2147483648

// turns is the row of the seats of an epoch: whose each is. It is empty if nobody has one.
type turns struct {
	row    [api.MaxSeats]int
	length int
}

// add writes so many seats of account a behind those that the row has.
func (t *turns) add(a int, seats int) {
	for k := 0; k < seats && t.length < api.MaxSeats; k++ {
		t.row[t.length] = a
		t.length++
	}
}

// shuffle brings the row into the order that the seed gives.
func (t *turns) shuffle(seed int) {
	r := seed % modulus
	// Go's remainder has the sign of the seed; the document's has none.
	if r < 0 {
		r += modulus
	}
	for i := t.length - 1; i >= 1; i-- {
		r = (1103515245*r + 12345) % modulus
		j := r / 65536 % (i + 1)
		held := t.row[i]
		t.row[i] = t.row[j]
		t.row[j] = held
	}
}

// draw gives the turns of the epoch that begins (step 9 of P8).
func (x *Chain) draw(seed int) {
	x.turns = turns{}
	x.blocks = [api.MaxLength]bool{}
	for a := range x.accounts {
		c := &x.accounts[a]
		c.cheated = false
		x.turns.add(a, c.seats)
	}
	x.turns.shuffle(seed)
}

// isHeight tells whether an epoch has this height.
func (x *Chain) isHeight(height int) bool {
	return within(height, 0, x.rules.length-1)
}

// leads tells whether the height is a turn of account a.
func (x *Chain) leads(a int, height int) bool {
	leader, err := x.Leader(height)
	return err == api.OK && leader == a
}

// asked is how many heights of this epoch have account a as their leader.
func (x *Chain) asked(a int) int {
	count := 0
	for height := range x.blocks {
		if x.leads(a, height) {
			count++
		}
	}
	return count
}

// made is how many of them have a block.
func (x *Chain) made(a int) int {
	count := 0
	for height, has := range x.blocks {
		if has && x.leads(a, height) {
			count++
		}
	}
	return count
}
