// Package coin is layer 1: see shared/doc/01-coin.md.
package coin

import (
	"innkeep/api"
)

// Is: see the chapter.
func Is(n int) bool {
	return n >= 0 && n <= api.MaxCoins
}

// Pay is a swap for nothing, so that both ways of paying have the same edges.
func Pay(from, to, n int) (int, int, api.Errno) {
	return Swap(from, to, n, 0)
}

// Swap looks only at what is left when both have paid: full purses may change places.
func Swap(a, b, pay, fee int) (int, int, api.Errno) {
	if pay < 0 || fee < 0 {
		return a, b, api.ErrArg
	}
	if a < pay || b < fee {
		return a, b, api.ErrPoor
	}
	nextA := Sum(a-pay, fee)
	nextB := Sum(b-fee, pay)
	if !Is(nextA) || !Is(nextB) {
		return a, b, api.ErrRich
	}
	return nextA, nextB, api.OK
}

// Sum: see the chapter.
func Sum(list ...int) int {
	sum := 0
	for _, n := range list {
		sum += n
	}
	return sum
}
