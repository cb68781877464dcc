// Package num: what operators give (chapter 1).
package num

import "planish/api"

// sixBits leaves of a number what a move goes by.
const sixBits = 63

// Is tells whether op is an operator of numbers (P1.1).
func Is(op int) bool {
	switch op {
	case api.Add, api.Sub, api.Mul, api.Div, api.Rem,
		api.And, api.Or, api.Xor, api.Shl, api.Shr,
		api.Eq, api.Lt, api.Not:
		return true
	}
	return false
}

// Turns tells whether op's two numbers may change places (P1.1).
func Turns(op int) bool {
	switch op {
	case api.Add, api.Mul, api.And, api.Or, api.Xor, api.Eq:
		return true
	}
	return false
}

// Do reckons op of a and b: what it gives, or the trap that it ends in (P1.2).
func Do(op int, a, b int64) (v int64, trap int) {
	switch op {
	case api.Add:
		return a + b, 0
	case api.Sub:
		return a - b, 0
	case api.Mul:
		return a * b, 0
	case api.Div, api.Rem:
		return divide(op, a, b)
	case api.And:
		return a & b, 0
	case api.Or:
		return a | b, 0
	case api.Xor:
		return a ^ b, 0
	case api.Shl:
		return a << uint64(b&sixBits), 0
	case api.Shr:
		return a >> uint64(b&sixBits), 0
	case api.Eq:
		return oneIf(a == b), 0
	case api.Lt:
		return oneIf(a < b), 0
	case api.Not:
		return oneIf(a == 0), 0
	}
	return 0, 0
}

// divide needs no case for the least number by -1: Go's own / and % wrap round
// there, to the least number and to 0, without a panic.
func divide(op int, a, b int64) (v int64, trap int) {
	if b == 0 {
		return 0, api.TrapDiv
	}
	if op == api.Div {
		return a / b, 0
	}
	return a % b, 0
}

func oneIf(holds bool) int64 {
	if holds {
		return 1
	}
	return 0
}
