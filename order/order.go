// Package order: orders of the numbers below n, each told by a seed.
package order

import "drill/api"

const (
	keyStep = 11400714819323198485
	turns   = 4
)

// Mix stirs the bits of a number (DOC.md, "Words").
func Mix(z uint64) uint64 {
	z = (z ^ (z >> 30)) * 13787848793156543929
	z = (z ^ (z >> 27)) * 10723151780598845931
	return z ^ (z >> 31)
}

// Place gives the place of a number in an order (P5).
func Place(seed uint64, n uint32, i uint32) (uint32, api.Errno) {
	if !inRange(n, i) {
		return 0, api.ErrRange
	}
	half := halfBits(n)
	// A round puts the numbers below 4 to the half into another order, so the
	// walk from i, which is below n, comes at the latest to i again.
	x := round(seed, half, i)
	for x >= n {
		x = round(seed, half, x)
	}
	return x, api.OK
}

// Back gives the number that has a place in an order (P6).
func Back(seed uint64, n uint32, i uint32) (uint32, api.Errno) {
	if !inRange(n, i) {
		return 0, api.ErrRange
	}
	half := halfBits(n)
	// This is the walk of Place the other way: it ends for the same reason.
	x := undoRound(seed, half, i)
	for x >= n {
		x = undoRound(seed, half, x)
	}
	return x, api.OK
}

func inRange(n uint32, i uint32) bool {
	return n <= api.MaxPlaces && i < n
}

// halfBits gives the least h from 1 on such that 4 to the h is at least n.
func halfBits(n uint32) uint {
	h := uint(1)
	for uint64(1)<<(2*h) < uint64(n) {
		h++
	}
	return h
}

// round makes a round of P5 on a number below 4 to the half.
func round(seed uint64, half uint, x uint32) uint32 {
	left := x >> half
	right := x & lowBits(half)
	for k := uint64(1); k <= turns; k++ {
		key := turnKey(seed, half, k, right)
		left, right = right, left^key
	}
	return left<<half + right
}

// undoRound undoes a round: the turns are taken back from the last to the first.
func undoRound(seed uint64, half uint, x uint32) uint32 {
	left := x >> half
	right := x & lowBits(half)
	for k := uint64(turns); k >= 1; k-- {
		key := turnKey(seed, half, k, left)
		left, right = right^key, left
	}
	return left<<half + right
}

func turnKey(seed uint64, half uint, k uint64, right uint32) uint32 {
	mixed := Mix(seed + k*keyStep + uint64(right))
	return uint32(mixed) & lowBits(half)
}

func lowBits(half uint) uint32 {
	return uint32(1)<<half - 1
}
