package seats

import (
	"math/big"
	"math/rand"
	"slices"
	"testing"

	"seats/api"
)

// lot is an amount that is queued.
type lot struct{ a, amount, due int }

// model is the document once more, in other ways than the program's: with a list of what is queued, with the supply
// counted along, and with all of Go.
type model struct {
	c                               api.Config
	epoch, supply, treasury, price  int
	liquid, locked, bid, seats      []int
	shares                          []int
	lots                            []lot
	row                             []int
	hasBlock, slashedNow, lazyFound map[int]bool
}

func newModel(c api.Config) *model {
	m := &model{c: c}
	m.liquid = append(slices.Clone(c.Start), 0)
	m.locked = make([]int, len(c.Start)+1)
	m.bid = make([]int, len(c.Start)+1)
	m.seats = make([]int, len(c.Start)+1)
	m.shares = make([]int, len(c.Start)+1)
	for _, amount := range c.Start {
		m.supply += amount
	}
	m.forget()
	return m
}

func (m *model) forget() {
	m.hasBlock = map[int]bool{}
	m.slashedNow = map[int]bool{}
	m.lazyFound = map[int]bool{}
}

func (m *model) bidFor(a int, amount int) api.Errno {
	switch {
	case a < 0 || a >= len(m.c.Start):
		return api.ErrName
	case amount < 0 || amount > api.MaxSupply:
		return api.ErrAmount
	case amount > m.locked[a] && amount-m.locked[a] > m.liquid[a]:
		return api.ErrFunds
	}
	m.bid[a] = amount
	for m.locked[a] < amount {
		step := amount - m.locked[a]
		m.locked[a], m.liquid[a] = m.locked[a]+step, m.liquid[a]-step
	}
	return api.OK
}

func (m *model) send(a int, b int, amount int) api.Errno {
	switch {
	case min(a, b) < 0 || max(a, b) >= len(m.c.Start):
		return api.ErrName
	case amount < 1 || amount > api.MaxSupply:
		return api.ErrAmount
	case m.liquid[a] < amount:
		return api.ErrFunds
	}
	m.liquid[a] -= amount
	m.liquid[b] += amount
	return api.OK
}

func (m *model) allShares() int {
	sum := 0
	for _, shares := range m.shares {
		sum += shares
	}
	return sum
}

// quotient is v times w / u, with numbers of any size.
func quotient(v int, w int, u int) int {
	product := new(big.Int).Mul(big.NewInt(int64(v)), big.NewInt(int64(w)))
	return int(product.Div(product, big.NewInt(int64(u))).Int64())
}

func (m *model) ofThePool() int {
	s := m.see(len(m.c.Start))
	return s.Liquid + s.Locked + s.Queued
}

func (m *model) deposit(a int, amount int) (int, api.Errno) {
	switch {
	case a < 0 || a >= len(m.c.Start):
		return 0, api.ErrName
	case amount < 1 || amount > api.MaxSupply:
		return 0, api.ErrAmount
	case m.liquid[a] < amount:
		return 0, api.ErrFunds
	}
	given := amount
	if m.allShares() > 0 {
		given = quotient(amount, m.allShares(), m.ofThePool())
	}
	switch {
	case given == 0:
		return 0, api.ErrSmall
	case m.allShares()+given > api.MaxShares:
		return 0, api.ErrFull
	}
	m.liquid[a] -= amount
	m.locked[len(m.c.Start)] += amount
	m.shares[a] += given
	return given, api.OK
}

func (m *model) leave(a int, shares int) (int, api.Errno) {
	switch {
	case a < 0 || a >= len(m.c.Start):
		return 0, api.ErrName
	case shares < 1 || shares > api.MaxShares:
		return 0, api.ErrAmount
	case m.shares[a] < shares:
		return 0, api.ErrFunds
	}
	worth := quotient(shares, m.ofThePool(), m.allShares())
	switch {
	case worth == 0:
		return 0, api.ErrSmall
	case worth > m.locked[len(m.c.Start)]:
		return 0, api.ErrBusy
	}
	m.shares[a] -= shares
	m.locked[len(m.c.Start)] -= worth
	m.lots = append(m.lots, lot{a, worth, m.epoch + m.c.Delay})
	return worth, api.OK
}

func (m *model) leader(height int) (int, api.Errno) {
	if height < 0 || height >= m.c.Length {
		return 0, api.ErrHeight
	}
	if len(m.row) == 0 {
		return 0, api.ErrNone
	}
	return m.row[height%len(m.row)], api.OK
}

func (m *model) makeAt(height int) api.Errno {
	_, e := m.leader(height)
	if e == api.OK && m.hasBlock[height] {
		return api.ErrAgain
	}
	if e == api.OK {
		m.hasBlock[height] = true
	}
	return e
}

func (m *model) slash(a int) api.Errno {
	switch {
	case a < 0 || a > len(m.c.Start):
		return api.ErrName
	case m.seats[a] == 0:
		return api.ErrNone
	}
	m.slashedNow[a] = true
	return api.OK
}

func (m *model) worked(a int) (made int, asked int) {
	for height := range m.c.Length {
		if leader, e := m.leader(height); e == api.OK && leader == a {
			asked++
			if m.hasBlock[height] {
				made++
			}
		}
	}
	return made, asked
}

func (m *model) queueAll(a int, amount int) {
	m.lots = append(m.lots, lot{a, amount, m.epoch + m.c.Delay})
	m.locked[a] -= amount
}

func (m *model) findLazy() {
	honest := 0
	for a, seats := range m.seats {
		if made, asked := m.worked(a); seats > 0 && !m.slashedNow[a] {
			honest++
			if made*1000 < m.c.Need*asked {
				m.lazyFound[a] = true
			}
		}
	}
	if len(m.lazyFound) == honest {
		m.lazyFound = map[int]bool{}
	}
}

func (m *model) makeMoney() {
	fresh := min(m.supply*m.c.Rate/1000, 1000000000-m.supply)
	m.supply += fresh
	cut := fresh * m.c.Cut / 1000
	m.treasury += cut
	left := fresh - cut
	for a, seats := range m.seats {
		if seats == 0 || m.slashedNow[a] || m.lazyFound[a] {
			continue
		}
		made, _ := m.worked(a)
		paid := (fresh - cut) * made / m.c.Length
		m.locked[a] += paid
		if a < len(m.c.Start) {
			m.bid[a] += paid
		}
		left -= paid
	}
	m.treasury += left
}

func (m *model) comeBack() {
	waiting := []lot{}
	for _, l := range m.lots {
		if l.due == m.epoch+1 {
			m.liquid[l.a] += l.amount
		} else {
			waiting = append(waiting, l)
		}
	}
	m.lots = waiting
}

// greatest tries the prices at which some stake buys a seat less if they grow.
func (m *model) greatest() int {
	best := 0
	for _, stake := range m.locked {
		for k := 1; k <= m.c.Seats; k++ {
			if p := stake / k; p > best && sold(m.locked, p) >= m.c.Seats {
				best = p
			}
		}
	}
	return best
}

func (m *model) sellSeats() {
	m.price = m.greatest()
	m.row = nil
	for a := range m.seats {
		m.seats[a] = 0
		for m.price > 0 && len(m.row) < m.c.Seats && (m.seats[a]+1)*m.price <= m.locked[a] {
			m.seats[a]++
			m.row = append(m.row, a)
		}
		if m.locked[a] < m.price {
			m.queueAll(a, m.locked[a])
			m.bid[a] = 0
		}
	}
}

func (m *model) shuffle(seed int) {
	r := uint64(seed) & 0x7fffffff
	for i := len(m.row) - 1; i > 0; i-- {
		r = (1103515245*r + 12345) & 0x7fffffff
		j := (r >> 16) % uint64(i+1)
		m.row[i], m.row[j] = m.row[j], m.row[i]
	}
}

func (m *model) next(seed int) {
	m.findLazy()
	for a := range m.slashedNow {
		burnt := m.locked[a] / 2
		m.locked[a] -= burnt
		m.supply -= burnt
	}
	m.makeMoney()
	for a := range m.locked {
		if m.slashedNow[a] || m.lazyFound[a] {
			m.queueAll(a, m.locked[a])
			m.bid[a] = 0
		}
	}
	m.comeBack()
	pool := len(m.c.Start)
	m.locked[pool] += m.liquid[pool]
	m.liquid[pool] = 0
	for a := range m.c.Start {
		m.queueAll(a, max(m.locked[a]-m.bid[a], 0))
	}
	m.sellSeats()
	m.shuffle(seed)
	m.forget()
	m.epoch++
}

func (m *model) due(a int, epoch int) int {
	sum := 0
	for _, l := range m.lots {
		if l.a == a && l.due == epoch {
			sum += l.amount
		}
	}
	return sum
}

func (m *model) see(a int) api.Account {
	queued := 0
	for _, l := range m.lots {
		if l.a == a {
			queued += l.amount
		}
	}
	return api.Account{
		Liquid: m.liquid[a], Locked: m.locked[a], Bid: m.bid[a], Queued: queued, Seats: m.seats[a], Shares: m.shares[a],
	}
}

// pair is a chain and the model of it.
type pair struct {
	x *Chain
	m *model
}

func (p pair) check(t *testing.T) {
	t.Helper()
	checkState(t, p.x, api.State{
		Epoch: p.m.epoch, Supply: p.m.supply, Treasury: p.m.treasury, Price: p.m.price, Shares: p.m.allShares(),
	})
	for a := range p.m.locked {
		checkSee(t, p.x, a, p.m.see(a), api.OK)
		for k := -1; k <= api.MaxDelay+1; k++ {
			checkDue(t, p.x, a, p.m.epoch+k, p.m.due(a, p.m.epoch+k), api.OK)
		}
	}
	for height := -1; height <= p.m.c.Length; height++ {
		leader, e := p.m.leader(height)
		checkLeader(t, p.x, height, leader, e)
	}
	if t.Failed() {
		t.Fatalf("the chain of %+v, in epoch %d", p.m.c, p.m.epoch)
	}
}

// anAmount is often about what an account has, sometimes none that may be.
func anAmount(r *rand.Rand, have int) int {
	switch r.Intn(8) {
	case 0:
		return edges[r.Intn(len(edges))]
	case 1:
		return have
	case 2:
		return have + 1
	}
	return r.Intn(have + 1)
}

func aSeed(r *rand.Rand) int {
	if r.Intn(3) == 0 {
		return edges[r.Intn(len(edges))]
	}
	return int(r.Uint64())
}

// act does one thing with the chain and with the model.
func (p pair) act(t *testing.T, r *rand.Rand) {
	t.Helper()
	a := r.Intn(len(p.m.locked)+2) - 1
	b := r.Intn(len(p.m.locked)+2) - 1
	have := 0
	if a >= 0 && a < len(p.m.locked) {
		have = p.m.liquid[a] + p.m.locked[a]
	}
	amount := anAmount(r, have)
	switch r.Intn(16) {
	case 0, 1, 2, 3:
		checkBid(t, p.x, a, amount, p.m.bidFor(a, amount))
	case 4:
		p.bidAlike(t, amount)
	case 5:
		checkSend(t, p.x, a, b, amount, p.m.send(a, b, amount))
	case 6, 7, 8:
		p.makeSome(t, r)
	case 9:
		checkSlash(t, p.x, a, p.m.slash(a))
	case 10, 11:
		p.deposit(t, a, amount)
	case 12:
		p.leaveSome(t, r, a)
	default:
		p.next(t, r)
	}
}

func (p pair) next(t *testing.T, r *rand.Rand) {
	t.Helper()
	seed := aSeed(r)
	p.m.next(seed)
	checkNext(t, p.x, seed)
}

// bidAlike has all accounts bid the same, as far as they can: so that more than one has a seat.
func (p pair) bidAlike(t *testing.T, amount int) {
	t.Helper()
	for a := range p.m.c.Start {
		most := min(amount, p.m.liquid[a]+p.m.locked[a])
		checkBid(t, p.x, a, most, p.m.bidFor(a, most))
	}
}

// makeSome tries heights from below the first to above the last: of some leaders few or none, of some all.
func (p pair) makeSome(t *testing.T, r *rand.Rand) {
	t.Helper()
	zeal := make([]int, len(p.m.locked))
	for a := range zeal {
		zeal[a] = r.Intn(5)
	}
	for height := -1; height <= p.m.c.Length; height++ {
		if leader, _ := p.m.leader(height); r.Intn(4) < zeal[leader] {
			checkMake(t, p.x, height, p.m.makeAt(height))
		}
	}
	height := edges[r.Intn(len(edges))]
	checkMake(t, p.x, height, p.m.makeAt(height))
}

func (p pair) deposit(t *testing.T, a int, amount int) {
	t.Helper()
	given, e := p.m.deposit(a, amount)
	checkDeposit(t, p.x, a, amount, given, e)
}

// leaveSome gives back about as many shares as the account has.
func (p pair) leaveSome(t *testing.T, r *rand.Rand, a int) {
	t.Helper()
	have := 0
	if a >= 0 && a < len(p.m.shares) {
		have = p.m.shares[a]
	}
	shares := anAmount(r, have)
	worth, e := p.m.leave(a, shares)
	checkLeave(t, p.x, a, shares, worth, e)
}

func aConfig(r *rand.Rand) api.Config {
	tops := []int{3, 12, 100, 5000, api.MaxStart}
	top := tops[r.Intn(len(tops))]
	c := api.Config{
		Seats:  1 + r.Intn(api.MaxSeats),
		Delay:  api.MinDelay + r.Intn(api.MaxDelay-api.MinDelay+1),
		Rate:   r.Intn(api.MaxRate + 1),
		Cut:    r.Intn(api.Whole + 1),
		Length: 1 + r.Intn(api.MaxLength),
		Need:   r.Intn(api.Whole+1) * r.Intn(2),
	}
	for range 1 + r.Intn(api.MaxAccounts) {
		c.Start = append(c.Start, r.Intn(top+1))
	}
	return c
}

// Several chains at once: what is done with one shows on it alone.
func TestChainsAsTheModel(t *testing.T) {
	r := rand.New(rand.NewSource(3))
	for range 150 {
		pairs := []pair{}
		for range 3 {
			c := aConfig(r)
			pairs = append(pairs, pair{mustNew(t, c), newModel(c)})
		}
		for range 150 {
			pairs[r.Intn(len(pairs))].act(t, r)
			for _, p := range pairs {
				p.check(t)
			}
		}
	}
}

// Long enough for the greatest supply.
func TestLongChainAsTheModel(t *testing.T) {
	r := rand.New(rand.NewSource(4))
	for range 20 {
		c := aConfig(r)
		c.Rate = api.MaxRate - r.Intn(10)
		p := pair{mustNew(t, c), newModel(c)}
		for range 1500 {
			p.act(t, r)
			p.check(t)
		}
	}
}

// Several have seats in most epochs, and some of them cheat or make too little.
func TestSeatedChainsAsTheModel(t *testing.T) {
	r := rand.New(rand.NewSource(5))
	for range 60 {
		c := aConfig(r)
		c.Need = 1 + r.Intn(api.Whole)
		p := pair{mustNew(t, c), newModel(c)}
		for range 40 {
			p.bidAlike(t, anAmount(r, slices.Max(c.Start)))
			p.deposit(t, r.Intn(len(c.Start)), r.Intn(1+slices.Max(c.Start)/4))
			p.leaveSome(t, r, r.Intn(len(c.Start)))
			p.makeSome(t, r)
			for range r.Intn(3) {
				a := r.Intn(len(c.Start) + 1)
				checkSlash(t, p.x, a, p.m.slash(a))
			}
			p.check(t)
			p.next(t, r)
			p.check(t)
		}
	}
}

// actInThePool gives to it and takes from it, and tells of it that it cheated, so that its shares become many for little.
func (p pair) actInThePool(t *testing.T, r *rand.Rand) {
	t.Helper()
	pool := len(p.m.c.Start)
	a := r.Intn(pool)
	switch r.Intn(9) {
	case 0, 1:
		p.deposit(t, a, anAmount(r, p.m.liquid[a]))
	case 2:
		p.deposit(t, a, 1+r.Intn(5))
	case 3, 4:
		p.leaveSome(t, r, a)
	case 5:
		shares := 1 + r.Intn(1+p.m.shares[a]/max(1, p.m.ofThePool()))
		worth, e := p.m.leave(a, shares)
		checkLeave(t, p.x, a, shares, worth, e)
	case 6:
		p.makeSome(t, r)
	case 7:
		checkSlash(t, p.x, pool, p.m.slash(pool))
		p.next(t, r)
	default:
		p.next(t, r)
	}
}

// Few bid, so that the pool has seats in most epochs.
func TestPoolsAsTheModel(t *testing.T) {
	r := rand.New(rand.NewSource(6))
	for range 150 {
		c := aConfig(r)
		c.Rate = c.Rate * r.Intn(2)
		p := pair{mustNew(t, c), newModel(c)}
		if r.Intn(3) == 0 {
			checkBid(t, p.x, 0, c.Start[0]/3, p.m.bidFor(0, c.Start[0]/3))
		}
		for range 200 {
			p.actInThePool(t, r)
			p.check(t)
		}
	}
}
