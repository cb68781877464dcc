package wf

import (
	"testing"

	"planish/api"
)

// graph throws where the blocks of a function lead, by block: not to block 0, and no two alike.
func (d *dice) graph(count int) [][]int {
	to := make([][]int, count)
	for b := range to {
		for range d.below(3) {
			n := 1 + d.below(count-1)
			if len(to[b]) == 0 || to[b][0] != n {
				to[b] = append(to[b], n)
			}
		}
	}
	return to
}

// cameTo tells which blocks a way leads to from block 0 that goes nowhere through the block without.
func cameTo(to [][]int, without int) []bool {
	came := make([]bool, len(to))
	came[0] = without != 0
	for range to {
		for b, next := range to {
			for _, n := range next {
				came[n] = came[n] || came[b] && n != without
			}
		}
	}
	return came
}

// reached is to without the blocks that are not come to, numbered anew.
func reached(to [][]int) [][]int {
	came := cameTo(to, -1)
	names := make([]int, len(to))
	count := 0
	for b := range to {
		names[b] = count
		if came[b] {
			count++
		}
	}
	var kept [][]int
	for b, next := range to {
		if !came[b] {
			continue
		}
		var into []int
		for _, n := range next {
			into = append(into, names[n])
		}
		kept = append(kept, into)
	}
	return kept
}

// waysOf is a function that goes so: each block but 0 has a Phi, each block two Nums, of which the first stands ahead of
// what takes a value, which is an Add, and the second behind it. It tells of each of these by block which value it is, 0
// of a Phi that is not there.
func waysOf(to [][]int) (f api.Func, phis, early, takers, late []int) {
	prev := make([][]int, len(to))
	for b, next := range to {
		for _, n := range next {
			prev[n] = append(prev[n], b)
		}
	}
	f = api.Func{Name: "f", Params: flag(), Blocks: make([]api.Block, len(to))}
	value := len(f.Params)
	for b, next := range to {
		var list []api.Ins
		phis = append(phis, 0)
		if b > 0 {
			value++
			phis[b] = value
			ins := give(api.Phi, api.I64, value, repeat(2, len(prev[b]))...)
			ins.Into = prev[b]
			list = append(list, ins)
		}
		early, takers, late = append(early, value+1), append(takers, value+2), append(late, value+3)
		list = append(list, num(api.I64, value+1, 1), give(api.Add, api.I64, value+2, 2, 2), num(api.I64, value+3, 1))
		value += 3
		end := take(api.Ret)
		switch len(next) {
		case 1:
			end = jump(next[0])
		case 2:
			end = br(1, next...)
		}
		f.Blocks[b] = row(append(list, end)...)
	}
	return f, phis, early, takers, late
}

// isThere asks that Check takes the module of f alone, or, where a value is not there, tells ErrUse.
func isThere(t *testing.T, what string, f api.Func, there bool) {
	t.Helper()
	e := api.ErrUse
	if there {
		e = api.OK
	}
	if got := Check(api.Module{Funcs: []api.Func{f}}); got != e {
		t.Fatalf("P6.3: Check: %s: %d, not %d: %+v", what, got, e, f)
	}
}

// TestUsesOfThrownWays has each value of a function taken in each block, and by each entry of a Phi.
func TestUsesOfThrownWays(t *testing.T) {
	thrown := dice(3)
	for range 150 {
		to := reached(thrown.graph(2 + thrown.below(6)))
		f, phis, early, takers, late := waysOf(to)
		isThere(t, "no values but parameters are taken", f, true)
		for a := range to {
			around := cameTo(to, a)
			for b := range to {
				over := !around[b]
				for _, given := range [][]int{phis, early, takers, late} {
					if given[a] > 0 {
						ahead := a != b || given[a] < takers[b]
						takeAdd(t, f, b, given[a], over && ahead)
						takePhis(t, f, b, given[a], around)
					}
				}
			}
		}
	}
}

func takeAdd(t *testing.T, f api.Func, b, value int, there bool) {
	t.Helper()
	list := f.Blocks[b].Ins
	args := list[len(list)-3].Args
	for i := range args {
		args[i] = value
		isThere(t, "an Add", f, there)
		args[i] = 2
	}
}

// takePhis has each entry of b's Phi take a value whose block is over all that is not come to around it.
func takePhis(t *testing.T, f api.Func, b, value int, around []bool) {
	t.Helper()
	ins := f.Blocks[b].Ins[0]
	if ins.Op != api.Phi {
		return
	}
	for i, from := range ins.Into {
		ins.Args[i] = value
		isThere(t, "an entry of a Phi", f, !around[from])
		ins.Args[i] = 2
	}
}

// TestWhatFollows: P6.4, of functions that may be: each value is given once, and each way to where it is taken goes by
// where it is given. All ways of so many steps are gone.
func TestWhatFollows(t *testing.T) {
	thrown := dice(4)
	taken := 0
	for range 3000 {
		f, _, _, _, late := waysOf(reached(thrown.graph(2 + thrown.below(4))))
		for range 2 {
			list := f.Blocks[thrown.below(len(f.Blocks))].Ins
			for i := range list {
				for k := range list[i].Args {
					if list[i].Op != api.Br && thrown.below(2) == 0 {
						list[i].Args[k] = 2 + thrown.below(late[len(late)-1]-1)
					}
				}
			}
		}
		if Check(api.Module{Funcs: []api.Func{f}}) == api.OK {
			taken++
			goAlong(t, f, map[int]int{1: 1, 2: 1}, -1, 0, 7)
		}
	}
	if taken < 100 {
		t.Errorf("the test has only %d functions that may be", taken)
	}
}

// goAlong goes all ways on from a block, and asks that what is taken was given on the way.
func goAlong(t *testing.T, f api.Func, given map[int]int, from, b, steps int) {
	t.Helper()
	there := make(map[int]int)
	for value, n := range given {
		there[value] = n
	}
	for _, ins := range f.Blocks[b].Ins {
		for k, arg := range ins.Args {
			sees := there
			if ins.Op == api.Phi {
				sees = given
			}
			if sees[arg] == 0 && (ins.Op != api.Phi || ins.Into[k] == from) {
				t.Fatalf("P6.4: value %d is taken in block %d, and is not there: %+v", arg, b, f)
			}
		}
		if ins.Type != 0 {
			there[ins.To]++
		}
		for _, to := range ins.Into {
			if steps > 0 && Ends(ins.Op) {
				goAlong(t, f, there, b, to, steps-1)
			}
		}
	}
}
