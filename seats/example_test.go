package seats_test

import (
	"fmt"

	"seats/api"
	"seats/seats"
)

// What README.md shows.
func Example() {
	price, err := seats.Price([]int{10, 10, 10}, 4)
	fmt.Println(price, err)
	x, err := seats.New(api.Config{
		Seats: 2, Delay: 2, Rate: 100, Cut: 100, Length: 10, Need: 500,
		Start: []int{1000, 500},
	})
	fmt.Println(err)
	err = x.Send(0, 1, 300)
	fmt.Println(err)
	account, err := x.See(1)
	fmt.Println(account.Liquid, err)
	err = x.Bid(0, 600)
	fmt.Println(err)
	err = x.Bid(1, 200)
	fmt.Println(err)
	err = x.Next(0)
	fmt.Println(err)
	state := x.State()
	fmt.Println(state.Supply, state.Price)
	leader, err := x.Leader(3)
	fmt.Println(leader, err)
	amount, err := x.Due(1, 2)
	fmt.Println(amount, err)
	err = x.Make(3)
	fmt.Println(err)
	err = x.Make(3)
	fmt.Println(err == api.ErrAgain)
	err = x.Slash(0)
	fmt.Println(err)
	err = x.Next(0)
	fmt.Println(err)
	state = x.State()
	fmt.Println(state.Supply, state.Price)
	shares, err := x.Deposit(1, 100)
	fmt.Println(shares, err)
	worth, err := x.Leave(1, 30)
	fmt.Println(worth, err)
	amount, err = x.Due(1, 4)
	fmt.Println(amount, err)
	err = x.Next(0)
	fmt.Println(err)
	account, err = x.See(2)
	fmt.Println(account.Locked, account.Seats, err)
	// Output:
	// 5 0
	// 0
	// 0
	// 800 0
	// 0
	// 0
	// 0
	// 1650 300
	// 0 0
	// 200 0
	// 0
	// true
	// 0
	// 0
	// 1485 0
	// 100 0
	// 30 0
	// 30 0
	// 0
	// 70 2 0
}
