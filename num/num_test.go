package num

import (
	"math"
	"math/big"
	"testing"

	"planish/api"
)

const (
	least = math.MinInt64
	most  = math.MaxInt64
)

type operator struct {
	op    int
	name  string
	turns bool
}

func operators() []operator {
	return []operator{
		{api.Add, "Add", true},
		{api.Sub, "Sub", false},
		{api.Mul, "Mul", true},
		{api.Div, "Div", false},
		{api.Rem, "Rem", false},
		{api.And, "And", true},
		{api.Or, "Or", true},
		{api.Xor, "Xor", true},
		{api.Shl, "Shl", false},
		{api.Shr, "Shr", false},
		{api.Eq, "Eq", true},
		{api.Lt, "Lt", false},
		{api.Not, "Not", false},
	}
}

// noOperators are api's other ops, and numbers that are no op at all: also those
// that would be operators if only their low bits were looked at.
func noOperators() []int {
	return []int{
		api.Num, api.FunOf, api.GloOf, api.Sel, api.Room, api.At, api.Load, api.Store,
		api.Call, api.Ext, api.Tab, api.Via, api.Phi, api.Jump, api.Br, api.Ret, api.Stop,
		0, -1, -api.Add, -api.Not, api.Stop + 1, 99, api.Add + 64, api.Mul + 256, api.Div + 1<<32,
		math.MinInt, math.MinInt + api.Add, math.MaxInt,
	}
}

// edges are numbers at which some operator has an edge.
func edges() []int64 {
	return []int64{
		least, least + 1, least + 2, -1<<32 - 1, -1 << 32, -1 << 31, -129, -128, -127, -66, -65, -64, -63, -62,
		-10, -7, -3, -2, -1, 0, 1, 2, 3, 6, 7, 10, 12, 31, 32, 33, 62, 63, 64, 65, 66, 127, 128, 129,
		0x5555555555555555, -0x5555555555555556, 0x0123456789abcdef, 3037000500, 1 << 31, 1 << 32, 1<<32 + 1,
		1 << 40, 1 << 62, most - 2, most - 1, most,
	}
}

func TestIsAndTurnsOfOperators(t *testing.T) {
	for _, o := range operators() {
		if !Is(o.op) {
			t.Errorf("P1.1: Is(%s): false", o.name)
		}
		if Turns(o.op) != o.turns {
			t.Errorf("P1.1: Turns(%s): %v", o.name, !o.turns)
		}
	}
}

func TestIsAndTurnsOfOthers(t *testing.T) {
	for _, op := range noOperators() {
		if Is(op) {
			t.Errorf("P1.1: Is(%d): true", op)
		}
		if Turns(op) {
			t.Errorf("P1.1: Turns(%d): true", op)
		}
	}
}

// row is a call of Do and what it answers.
type row struct {
	a, b, v int64
	trap    int
}

func checkRows(t *testing.T, op int, name string, rows []row) {
	t.Helper()
	for _, r := range rows {
		if v, trap := Do(op, r.a, r.b); v != r.v || trap != r.trap {
			t.Errorf("P1.2: Do(%s, %d, %d): %d, %d, not %d, %d", name, r.a, r.b, v, trap, r.v, r.trap)
		}
	}
}

func TestDoAddSubMul(t *testing.T) {
	checkRows(t, api.Add, "Add", []row{
		{2, 3, 5, 0}, {-2, 3, 1, 0}, {0, 0, 0, 0},
		{most, 1, least, 0}, {least, -1, most, 0}, {least, least, 0, 0}, {most, most, -2, 0}, {least, most, -1, 0},
	})
	checkRows(t, api.Sub, "Sub", []row{
		{2, 3, -1, 0}, {3, 2, 1, 0}, {-3, -3, 0, 0},
		{least, 1, most, 0}, {most, -1, least, 0}, {0, least, least, 0}, {-1, least, most, 0}, {most, least, -1, 0},
	})
	checkRows(t, api.Mul, "Mul", []row{
		{6, 7, 42, 0}, {6, -7, -42, 0}, {-6, -7, 42, 0}, {least, 0, 0, 0},
		{least, -1, least, 0}, {least, least, 0, 0}, {most, most, 1, 0}, {most, 2, -2, 0}, {most, -2, 2, 0},
		{1 << 40, 1 << 40, 0, 0}, {1 << 32, 1 << 31, least, 0}, {1<<32 + 1, 1<<32 + 1, 1<<33 + 1, 0},
	})
}

func TestDoDivRem(t *testing.T) {
	checkRows(t, api.Div, "Div", []row{
		{7, 2, 3, 0}, {6, 3, 2, 0}, {0, 5, 0, 0}, {2, 7, 0, 0}, {-2, 7, 0, 0},
		{-7, 2, -3, 0}, {7, -2, -3, 0}, {-7, -2, 3, 0}, {-1, most, 0, 0},
		{least, -1, least, 0}, {least, 1, least, 0}, {least, 2, -1 << 62, 0}, {least, least, 1, 0},
		{most, -1, -most, 0}, {most, least, 0, 0}, {least, most, -1, 0},
		{5, 0, 0, api.TrapDiv}, {-5, 0, 0, api.TrapDiv}, {0, 0, 0, api.TrapDiv}, {least, 0, 0, api.TrapDiv},
		{most, 0, 0, api.TrapDiv},
	})
	checkRows(t, api.Rem, "Rem", []row{
		{7, 2, 1, 0}, {6, 3, 0, 0}, {0, 5, 0, 0}, {2, 7, 2, 0}, {-2, 7, -2, 0},
		{-7, 2, -1, 0}, {7, -2, 1, 0}, {-7, -2, -1, 0}, {-6, 3, 0, 0},
		{least, -1, 0, 0}, {least, 1, 0, 0}, {least, 3, -2, 0}, {least, least, 0, 0},
		{most, -1, 0, 0}, {most, least, most, 0}, {least, most, -1, 0},
		{5, 0, 0, api.TrapDiv}, {-5, 0, 0, api.TrapDiv}, {0, 0, 0, api.TrapDiv}, {least, 0, 0, api.TrapDiv},
		{most, 0, 0, api.TrapDiv},
	})
}

func TestDoBits(t *testing.T) {
	checkRows(t, api.And, "And", []row{
		{12, 10, 8, 0}, {-1, 10, 10, 0}, {-1, least, least, 0}, {most, least, 0, 0}, {-4, 7, 4, 0}, {5, 0, 0, 0},
	})
	checkRows(t, api.Or, "Or", []row{
		{12, 10, 14, 0}, {-1, 10, -1, 0}, {most, least, -1, 0}, {-4, 3, -1, 0}, {5, 0, 5, 0},
	})
	checkRows(t, api.Xor, "Xor", []row{
		{12, 10, 6, 0}, {-1, most, least, 0}, {-1, 0, -1, 0}, {least, least, 0, 0}, {most, least, -1, 0},
	})
}

func TestDoMoves(t *testing.T) {
	checkRows(t, api.Shl, "Shl", []row{
		{1, 0, 1, 0}, {3, 2, 12, 0}, {-1, 4, -16, 0}, {1, 63, least, 0}, {2, 63, 0, 0}, {3, 63, least, 0}, {least, 1, 0, 0},
		{1, 64, 1, 0}, {1, 65, 2, 0}, {3, 1<<32 + 1, 6, 0}, {1, most, least, 0}, {7, 256, 7, 0},
		{1, -1, least, 0}, {1, -64, 1, 0}, {1, -63, 2, 0}, {5, least, 5, 0}, {5, least + 1, 10, 0},
	})
	checkRows(t, api.Shr, "Shr", []row{
		{8, 0, 8, 0}, {8, 1, 4, 0}, {1, 1, 0, 0}, {most, 62, 1, 0}, {most, 63, 0, 0},
		{-8, 1, -4, 0}, {-7, 1, -4, 0}, {-1, 1, -1, 0}, {-1, 63, -1, 0}, {least, 63, -1, 0}, {least, 62, -2, 0},
		{8, 64, 8, 0}, {8, 65, 4, 0}, {-8, 66, -2, 0}, {8, 1<<32 + 1, 4, 0}, {most, most, 0, 0}, {-8, 256, -8, 0},
		{least, -1, -1, 0}, {most, -1, 0, 0}, {8, -64, 8, 0}, {8, -63, 4, 0}, {-8, least, -8, 0}, {-8, least + 1, -4, 0},
	})
}

func TestDoQuestions(t *testing.T) {
	checkRows(t, api.Eq, "Eq", []row{
		{4, 4, 1, 0}, {4, 5, 0, 0}, {4, -4, 0, 0}, {0, 0, 1, 0}, {least, least, 1, 0}, {least, most, 0, 0},
		{1, 1<<32 + 1, 0, 0}, {0, least, 0, 0},
	})
	checkRows(t, api.Lt, "Lt", []row{
		{4, 5, 1, 0}, {5, 5, 0, 0}, {5, 4, 0, 0}, {-1, 0, 1, 0}, {0, -1, 0, 0}, {-2, -1, 1, 0},
		{least, most, 1, 0}, {most, least, 0, 0}, {least, 1, 1, 0}, {1, least, 0, 0}, {least, least, 0, 0},
	})
}

func TestDoNotWhateverTheSecondIs(t *testing.T) {
	for _, b := range edges() {
		checkRows(t, api.Not, "Not", []row{
			{0, b, 1, 0}, {1, b, 0, 0}, {-1, b, 0, 0}, {2, b, 0, 0}, {1 << 32, b, 0, 0}, {least, b, 0, 0}, {most, b, 0, 0},
		})
	}
}

func TestDoOfNoOperator(t *testing.T) {
	for _, op := range noOperators() {
		for _, a := range []int64{least, -7, -1, 0, 1, 7, most} {
			for _, b := range []int64{least, -1, 0, 1, 2, most} {
				if v, trap := Do(op, a, b); v != 0 || trap != 0 {
					t.Errorf("P1.2: Do(%d, %d, %d): %d, %d, not 0, 0", op, a, b, v, trap)
				}
			}
		}
	}
}

// wrapped is x, by 2^64 less or more, as often as it takes to be an int64.
func wrapped(x *big.Int) int64 {
	whole := new(big.Int).Lsh(big.NewInt(1), 64)
	low := new(big.Int).Mod(x, whole)
	if low.Bit(63) == 1 {
		low.Sub(low, whole)
	}
	return low.Int64()
}

// reckoned is what the document says of Do, in numbers without bounds.
func reckoned(op int, a, b int64) (int64, int) {
	x, y, z := big.NewInt(a), big.NewInt(b), new(big.Int)
	six := uint(z.Mod(y, big.NewInt(64)).Uint64())
	truth := false
	switch op {
	case api.Add:
		return wrapped(z.Add(x, y)), 0
	case api.Sub:
		return wrapped(z.Sub(x, y)), 0
	case api.Mul:
		return wrapped(z.Mul(x, y)), 0
	case api.Div, api.Rem:
		if b == 0 {
			return 0, api.TrapDiv
		}
		if op == api.Div {
			return wrapped(z.Quo(x, y)), 0
		}
		return wrapped(z.Rem(x, y)), 0
	case api.And:
		return wrapped(z.And(x, y)), 0
	case api.Or:
		return wrapped(z.Or(x, y)), 0
	case api.Xor:
		return wrapped(z.Xor(x, y)), 0
	case api.Shl:
		return wrapped(z.Lsh(x, six)), 0
	case api.Shr:
		return wrapped(z.Rsh(x, six)), 0
	case api.Eq:
		truth = x.Cmp(y) == 0
	case api.Lt:
		truth = x.Cmp(y) < 0
	case api.Not:
		truth = x.Sign() == 0
	}
	if truth {
		return 1, 0
	}
	return 0, 0
}

func TestDoAsReckonedWithoutBounds(t *testing.T) {
	for _, o := range operators() {
		for _, a := range edges() {
			for _, b := range edges() {
				v, trap := Do(o.op, a, b)
				if wantV, wantTrap := reckoned(o.op, a, b); v != wantV || trap != wantTrap {
					t.Errorf("P1.2: Do(%s, %d, %d): %d, %d, not %d, %d", o.name, a, b, v, trap, wantV, wantTrap)
				}
			}
		}
	}
}

func TestWhatTurnsMayBeTurned(t *testing.T) {
	for _, o := range operators() {
		differs := false
		for _, a := range edges() {
			for _, b := range edges() {
				v, trap := Do(o.op, a, b)
				w, other := Do(o.op, b, a)
				differs = differs || v != w || trap != other
			}
		}
		if differs == Turns(o.op) {
			t.Errorf("P1.3: %s: Turns %v, but turned it differs: %v", o.name, Turns(o.op), differs)
		}
	}
}

func TestWhatIsAddedIsTakenOffAgain(t *testing.T) {
	for _, a := range edges() {
		for _, b := range edges() {
			sum, _ := Do(api.Add, a, b)
			if v, _ := Do(api.Sub, sum, b); v != a {
				t.Errorf("P1.3: %d and %d, less %d: %d", a, b, b, v)
			}
		}
	}
}

func TestDivAndRemMakeUpTheNumber(t *testing.T) {
	for _, a := range edges() {
		for _, b := range edges() {
			if b == 0 {
				continue
			}
			quotient, _ := Do(api.Div, a, b)
			rest, _ := Do(api.Rem, a, b)
			product, _ := Do(api.Mul, b, quotient)
			if v, _ := Do(api.Add, product, rest); v != a {
				t.Errorf("P1.3: %d by %d: %d and %d make up %d", a, b, quotient, rest, v)
			}
		}
	}
}
