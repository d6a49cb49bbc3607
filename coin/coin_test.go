package coin

import (
	"math"
	"testing"

	"innkeep/api"
)

const top = api.MaxCoins

// edges are purses around each border that the promises name.
var edges = []int{0, 1, 2, 5, top/2 - 1, top / 2, top/2 + 1, top - 1, top}

// numbers are the edges and what is no purse.
var numbers = append([]int{math.MinInt, -top - 1, -top, -2, -1, top + 1, 2 * top, math.MaxInt}, edges...)

// P1.1

func TestIs(t *testing.T) {
	for _, x := range []struct {
		n    int
		want bool
	}{
		{math.MinInt, false}, {-top, false}, {-1, false},
		{0, true}, {1, true}, {7, true}, {top - 1, true}, {top, true},
		{top + 1, false}, {2 * top, false}, {math.MaxInt, false},
	} {
		if got := Is(x.n); got != x.want {
			t.Errorf("Is(%d) = %v", x.n, got)
		}
	}
}

func TestPay(t *testing.T) {
	for _, x := range []struct {
		from, to, n      int
		wantFrom, wantTo int
		want             api.Errno
	}{
		{5, 1, 5, 0, 6, api.OK},
		{5, 1, 3, 2, 4, api.OK},
		{5, 1, 0, 5, 1, api.OK},
		{0, 0, 0, 0, 0, api.OK},
		{5, top - 5, 5, 0, top, api.OK},
		{top, 0, top, 0, top, api.OK},
		{top, top, 0, top, top, api.OK},
		{5, 1, 6, 5, 1, api.ErrPoor},
		{0, 1, 1, 0, 1, api.ErrPoor},
		{5, 1, math.MaxInt, 5, 1, api.ErrPoor},
		{5, 1, -1, 5, 1, api.ErrArg},
		{0, top, -1, 0, top, api.ErrArg},
		{5, 1, math.MinInt, 5, 1, api.ErrArg},
		{5, top, 1, 5, top, api.ErrRich},
		{5, top - 4, 5, 5, top - 4, api.ErrRich},
		{top, top, top, top, top, api.ErrRich},
		{5, top, 6, 5, top, api.ErrPoor}, // named ahead of ErrRich
		{0, top, top + 1, 0, top, api.ErrPoor},
	} {
		from, to, err := Pay(x.from, x.to, x.n)
		if from != x.wantFrom || to != x.wantTo || err != x.want {
			t.Errorf("Pay(%d, %d, %d) = %d, %d, %d", x.from, x.to, x.n, from, to, err)
		}
	}
}

// P1.2

func TestSwap(t *testing.T) {
	for _, x := range []struct {
		a, b, pay, fee int
		wantA, wantB   int
		want           api.Errno
	}{
		{5, 1, 5, 1, 1, 5, api.OK},
		{5, 2, 3, 1, 3, 4, api.OK},
		{5, 1, 0, 1, 6, 0, api.OK},
		{5, 1, 5, 0, 0, 6, api.OK},
		{5, 1, 0, 0, 5, 1, api.OK},
		{0, 0, 0, 0, 0, 0, api.OK},
		{top, top, top, top, top, top, api.OK}, // at once: neither one goes over on the way
		{top, 3, 1, 1, top, 3, api.OK},
		{3, top, 1, 1, 3, top, api.OK},
		{top, 0, top, 0, 0, top, api.OK},
		{0, top, 0, top, top, 0, api.OK},
		{top - 1, 1, 0, 1, top, 0, api.OK},
		{1, top - 1, 1, 0, 0, top, api.OK},
		{5, 1, 6, 1, 5, 1, api.ErrPoor},
		{5, 1, 5, 2, 5, 1, api.ErrPoor},
		{5, 0, 6, 5, 5, 0, api.ErrPoor}, // what one is to be paid doesn't help one to pay
		{0, 5, 5, 6, 0, 5, api.ErrPoor},
		{0, 5, 1, 5, 0, 5, api.ErrPoor},
		{5, 1, math.MaxInt, math.MaxInt, 5, 1, api.ErrPoor},
		{5, 1, -1, 1, 5, 1, api.ErrArg},
		{5, 1, 5, -1, 5, 1, api.ErrArg},
		{5, 1, -1, -1, 5, 1, api.ErrArg},
		{5, 1, -1, 9, 5, 1, api.ErrArg}, // named ahead of ErrPoor
		{5, 1, 9, -1, 5, 1, api.ErrArg},
		{5, 1, math.MinInt, math.MinInt, 5, 1, api.ErrArg},
		{top, 5, 0, 1, top, 5, api.ErrRich},
		{5, top, 1, 0, 5, top, api.ErrRich},
		{top - 1, 5, 1, 3, top - 1, 5, api.ErrRich},
		{5, top - 1, 3, 1, 5, top - 1, api.ErrRich},
		{top, top, 1, 0, top, top, api.ErrRich},
		{top, top, 0, 1, top, top, api.ErrRich},
		{5, top, 6, 0, 5, top, api.ErrPoor}, // named ahead of ErrRich
		{top, 5, 0, 6, top, 5, api.ErrPoor},
	} {
		a, b, err := Swap(x.a, x.b, x.pay, x.fee)
		if a != x.wantA || b != x.wantB || err != x.want {
			t.Errorf("Swap(%d, %d, %d, %d) = %d, %d, %d", x.a, x.b, x.pay, x.fee, a, b, err)
		}
	}
}

func TestSum(t *testing.T) {
	for _, x := range []struct {
		list []int
		want int
	}{
		{nil, 0},
		{[]int{}, 0},
		{[]int{0}, 0},
		{[]int{7}, 7},
		{[]int{1, 2, 3}, 6},
		{[]int{3, 3, 3}, 9},
		{[]int{top}, top},
		{[]int{top, top, 1}, 2*top + 1},
	} {
		if got := Sum(x.list...); got != x.want {
			t.Errorf("Sum(%v) = %d", x.list, got)
		}
	}
	if Sum() != 0 || Sum(4, 0, 5) != 9 {
		t.Error("Sum of purses, one by one")
	}
}

func TestSumOfManyFullPurses(t *testing.T) {
	many := make([]int, 1000, 1001)
	many[:1001][1000] = 5 // behind the length: none of the purses
	for i := range many {
		many[i] = top
	}
	if got := Sum(many...); got != 1000*top {
		t.Errorf("a thousand full purses are %d", got)
	}
	for i, n := range many {
		if n != top {
			t.Fatalf("the purse %d was changed to %d", i, n)
		}
	}
	if many[:1001][1000] != 5 {
		t.Error("what is behind the list's length was changed")
	}
}

// P1.3

func TestSumStays(t *testing.T) {
	for _, a := range edges {
		for _, b := range edges {
			for _, pay := range numbers {
				c, d, err := Pay(a, b, pay)
				checkStays(t, "Pay", a, b, c, d, err)
				for _, fee := range numbers {
					c, d, err := Swap(a, b, pay, fee)
					checkStays(t, "Swap", a, b, c, d, err)
				}
			}
		}
	}
}

// checkStays holds the purses a and b against c and d, which a call made of them.
func checkStays(t *testing.T, call string, a, b, c, d int, err api.Errno) {
	t.Helper()
	if Sum(c, d) != a+b || c+d != a+b {
		t.Errorf("%s of %d and %d makes %d and %d", call, a, b, c, d)
	}
	if !Is(c) || !Is(d) {
		t.Errorf("%s of %d and %d makes no purses: %d and %d", call, a, b, c, d)
	}
	if err != api.OK && (c != a || d != b) {
		t.Errorf("%s of %d and %d makes %d and %d, with the error %d", call, a, b, c, d, err)
	}
}
