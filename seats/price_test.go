package seats

import (
	"math"
	"math/rand"
	"slices"
	"testing"

	"seats/api"
)

type sale struct {
	stakes []int
	n      int
	price  int
	err    api.Errno
}

func checkSales(t *testing.T, sales []sale) {
	t.Helper()
	for _, s := range sales {
		if p, e := Price(s.stakes, s.n); p != s.price || e != s.err {
			t.Errorf("P3: Price(%v, %d) = %d, %d, want %d, %d", s.stakes, s.n, p, e, s.price, s.err)
		}
	}
}

func TestPriceOfTheExamples(t *testing.T) {
	tens := []int{10, 10, 10}
	checkSales(t, []sale{
		{tens, 3, 10, api.OK}, {tens, 4, 5, api.OK}, {tens, 6, 5, api.OK}, {tens, 7, 3, api.OK},
		{[]int{7}, 7, 1, api.OK}, {[]int{7}, 8, 0, api.ErrFew},
		{[]int{100, 1}, 2, 50, api.OK},
		{nil, 1, 0, api.ErrFew}, {nil, 0, 0, api.ErrSeats},
		{[]int{600, 200, 0}, 2, 300, api.OK}, {[]int{674, 0, 0}, 2, 337, api.OK},
	})
}

func TestPriceAtTheBounds(t *testing.T) {
	checkSales(t, []sale{
		{[]int{1}, 1, 1, api.OK},
		{[]int{9}, 10, 0, api.ErrFew}, {[]int{10}, 10, 1, api.OK}, {[]int{19}, 10, 1, api.OK}, {[]int{20}, 10, 2, api.OK},
		{[]int{api.MaxSupply}, 1, api.MaxSupply, api.OK},
		{[]int{api.MaxSupply}, 10, 100000000, api.OK},
		{[]int{api.MaxSupply - 1}, 10, 99999999, api.OK},
		{[]int{api.MaxSupply, 0}, 2, 500000000, api.OK},
		{same(16, api.MaxSupply), 1, api.MaxSupply, api.OK},
		{same(16, api.MaxSupply), 10, api.MaxSupply, api.OK},
		{append(same(15, 0), 5), 5, 1, api.OK},
		{append(same(15, 0), 5), 6, 0, api.ErrFew},
		{same(16, 0), 1, 0, api.ErrFew},
		{[]int{}, 10, 0, api.ErrFew},
	})
}

func TestPriceOfWrongNumbers(t *testing.T) {
	for _, n := range []int{math.MinInt, -1, 0, 11, math.MaxInt} {
		checkSales(t, []sale{{[]int{500}, n, 0, api.ErrSeats}, {nil, n, 0, api.ErrSeats}, {[]int{-1}, n, 0, api.ErrSeats}})
	}
	for _, stake := range []int{math.MinInt, -1, api.MaxSupply + 1, math.MaxInt} {
		checkSales(t, []sale{
			{[]int{stake}, 1, 0, api.ErrSeats},
			{[]int{stake, 50, 50}, 2, 0, api.ErrSeats},
			{[]int{50, stake, 50}, 2, 0, api.ErrSeats},
			{[]int{50, 50, stake}, 2, 0, api.ErrSeats},
			{append(same(15, 50), stake), 2, 0, api.ErrSeats},
		})
	}
	checkSales(t, []sale{
		{same(17, 50), 3, 0, api.ErrSeats},
		{same(1000000, 50), 3, 0, api.ErrSeats},
	})
}

// Where both errors apply, ErrSeats is named first.
func TestPriceErrorsInOrder(t *testing.T) {
	checkSales(t, []sale{
		{same(17, 0), 3, 0, api.ErrSeats},
		{[]int{1, -1}, 3, 0, api.ErrSeats},
		{[]int{1}, 11, 0, api.ErrSeats},
		{[]int{-1, api.MaxSupply}, 1, 0, api.ErrSeats},
		{[]int{math.MaxInt, math.MaxInt, 5}, 5, 0, api.ErrSeats},
	})
}

// sold is the word of the document: the sum of stake / p over all stakes.
func sold(stakes []int, p int) int {
	sum := 0
	for _, stake := range stakes {
		sum += stake / p
	}
	return sum
}

// byTrial goes through all prices, as the document defines the greatest.
func byTrial(stakes []int, n int) (int, api.Errno) {
	if sold(stakes, 1) < n {
		return 0, api.ErrFew
	}
	greatest := 1
	for p := 1; p <= slices.Max(stakes); p++ {
		if sold(stakes, p) >= n {
			greatest = p
		}
	}
	return greatest, api.OK
}

func TestPriceAsDefined(t *testing.T) {
	r := rand.New(rand.NewSource(1))
	for range 3000 {
		stakes := make([]int, 1+r.Intn(api.MaxStakes))
		top := 1 + r.Intn(60)
		for i := range stakes {
			stakes[i] = r.Intn(top)
		}
		for n := 1; n <= api.MaxSeats; n++ {
			p, e := byTrial(stakes, n)
			checkSales(t, []sale{{stakes, n, p, e}})
		}
	}
}

func TestPriceOfGreatStakes(t *testing.T) {
	r := rand.New(rand.NewSource(2))
	for range 3000 {
		stakes := make([]int, 1+r.Intn(api.MaxStakes))
		for i := range stakes {
			stakes[i] = r.Intn(api.MaxSupply + 1)
		}
		n := 1 + r.Intn(api.MaxSeats)
		p, e := Price(stakes, n)
		if e != api.OK || p < 1 {
			t.Errorf("P3: Price(%v, %d) = %d, %d", stakes, n, p, e)
			continue
		}
		if sold(stakes, p) < n || sold(stakes, p+1) >= n {
			t.Errorf("P3: Price(%v, %d) = %d: sold %d, and %d at one more", stakes, n, p, sold(stakes, p), sold(stakes, p+1))
		}
	}
}

func TestPriceWritesNothing(t *testing.T) {
	for _, stakes := range [][]int{{}, {30, 10, 20}, {30, -1, 20}, {0, 1}, same(17, 5)} {
		for _, n := range []int{0, 1, 2, 10} {
			list, all := behind(stakes)
			before := slices.Clone(all)
			Price(list, n)
			if !slices.Equal(all, before) {
				t.Errorf("P2: Price(%v, %d) left %v, was %v", stakes, n, all, before)
			}
		}
	}
}

func TestPriceKeepsNothing(t *testing.T) {
	stakes := []int{10, 10, 10}
	Price(stakes, 3)
	stakes[0], stakes[1], stakes[2] = 90, 0, 0
	checkSales(t, []sale{{stakes, 3, 30, api.OK}, {[]int{10, 10, 10}, 3, 10, api.OK}})
}

func TestNothingIsSoldBelowOne(t *testing.T) {
	for _, p := range []int{math.MinInt, -1, 0} {
		if sellsOut([]int{5}, p, 1) {
			t.Errorf("seats are sold at the price %d", p)
		}
	}
}
