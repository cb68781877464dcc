package wf

import (
	"math"
	"strconv"

	"planish/api"
)

// flag are the parameters of the functions below: value 1 chooses the way, value 2 is a number.
func flag() []int { return []int{api.I1, api.I64} }

func ways(blocks ...api.Block) func(h half) { return as(function(flag(), 0, blocks...)) }

// rowFaults are ErrFlow's in a block by itself.
func rowFaults() []fault {
	e := api.ErrFlow
	ret, stop, none, n := row(take(api.Ret)), row(take(api.Stop)), row(), num(api.I64, 3, 1)
	return []fault{
		{"the only block is empty", e, ways(none), ways(ret)},
		{"block 0 is empty", e, ways(none, ret), ways(row(jump(1)), ret)},
		{"a block between is empty", e, ways(row(jump(1)), none, ret), ways(row(jump(1)), row(jump(2)), ret)},
		{"a block at the end of a way is empty", e, ways(row(br(1, 1, 2)), ret, none), ways(row(br(1, 1, 2)), ret, stop)},
		{"no end", e, ways(row(n)), ways(row(n, take(api.Ret)))},
		{"a Store last", e, ways(row(room(3, 1), take(api.Store, 3, 2))), ways(row(room(3, 1), take(api.Store, 3, 2), take(api.Stop)))},
		{"no end in a block that is led to", e, ways(row(jump(1)), row(n)), ways(row(jump(1)), row(n, take(api.Stop)))},
		{"a Phi last", e, ways(row(jump(1)), row(phi(api.I64, 3, 2, 0))), ways(row(jump(1)), row(phi(api.I64, 3, 2, 0), take(api.Ret)))},
		{"two Rets", e, ways(row(take(api.Ret), take(api.Ret))), ways(ret)},
		{"a Ret first", e, ways(row(take(api.Ret), n, take(api.Ret))), ways(row(n, take(api.Ret)))},
		{"a Stop between", e, ways(row(n, take(api.Stop), take(api.Ret))), ways(row(n, take(api.Ret)))},
		{"a Jump between", e, ways(row(jump(1), jump(1)), ret), ways(row(jump(1)), ret)},
		{"a Br between", e, ways(row(br(1, 1, 2), br(1, 1, 2)), ret, ret), ways(row(br(1, 1, 2)), ret, ret)},
		{"an end ahead of what is none", e, ways(row(take(api.Stop), n)), ways(row(n, take(api.Stop)))},
		{"a Phi behind another Ins", e, ways(row(jump(1)), row(n, phi(api.I64, 4, 2, 0), take(api.Ret))),
			ways(row(jump(1)), row(phi(api.I64, 3, 2, 0), num(api.I64, 4, 1), take(api.Ret)))},
		{"a Phi behind a Phi and another Ins", e, ways(row(jump(1)), row(phi(api.I64, 3, 2, 0), num(api.I64, 4, 1), phi(api.I64, 5, 2, 0), take(api.Ret))),
			ways(row(jump(1)), row(phi(api.I64, 3, 2, 0), phi(api.I64, 4, 2, 0), num(api.I64, 5, 1), take(api.Ret)))},
	}
}

// leadFaults are ErrFlow's of where ends lead.
func leadFaults() []fault {
	e := api.ErrFlow
	ret := row(take(api.Ret))
	var list []fault
	for _, to := range []int{math.MinInt, -2, -1, 0, 3, 4, 1<<32 + 1, math.MaxInt} {
		what := " leads to " + strconv.Itoa(to)
		list = append(list, []fault{
			{"a Jump" + what, e, ways(row(br(1, 1, 2)), row(jump(to)), ret), ways(row(br(1, 1, 2)), row(jump(2)), ret)},
			{"a Br first" + what, e, ways(row(jump(1)), row(br(1, to, 2)), ret), ways(row(jump(1)), row(br(1, 1, 2)), ret)},
			{"a Br second" + what, e, ways(row(jump(1)), row(br(1, 2, to)), ret), ways(row(jump(1)), row(br(1, 2, 1)), ret)},
		}...)
	}
	return append(list, []fault{
		{"the chapter's example", e, ways(row(jump(0))), ways(ret)},
		{"block 0 leads to itself", e, ways(row(br(1, 0, 1)), ret), ways(row(jump(1)), ret)},
		{"a ring through block 0", e, ways(row(jump(1)), row(jump(2)), row(br(1, 0, 3)), ret), ways(row(jump(1)), row(jump(2)), row(br(1, 1, 3)), ret)},
		{"a Br with two alike", e, ways(row(br(1, 1, 1)), ret), ways(row(jump(1)), ret)},
		{"a Br with itself twice", e, ways(row(br(1, 1, 2)), row(br(1, 1, 1)), ret), ways(row(br(1, 1, 2)), row(br(1, 1, 2)), ret)},
		{"not reached, last", e, ways(ret, ret), ways(row(jump(1)), ret)},
		{"not reached, between", e, ways(row(jump(2)), ret, ret), ways(row(br(1, 2, 1)), ret, ret)},
		{"not reached, leads to one that is", e, ways(row(jump(2)), row(jump(2)), ret), ways(row(br(1, 1, 2)), row(jump(2)), ret)},
		{"not reached, to itself", e, ways(ret, row(jump(1))), ways(row(jump(1)), row(jump(1)))},
		{"a ring that is not reached", e, ways(ret, row(jump(2)), row(jump(1))), ways(row(jump(1)), row(jump(2)), row(jump(1)))},
		{"behind one that is not reached", e, ways(ret, row(jump(2)), ret), ways(row(jump(1)), row(jump(2)), ret)},
	}...)
}

// entryFaults are ErrFlow's of Phis' entries: in block 3 of two ways, and in block 1 of a ring.
func entryFaults() []fault {
	e := api.ErrFlow
	fork := func(into ...int) func(h half) {
		ins := give(api.Phi, api.I64, 3, repeat(2, len(into))...)
		ins.Into = into
		return ways(row(br(1, 1, 2)), row(jump(3)), row(jump(3)), row(ins, take(api.Ret)))
	}
	ring := func(into ...int) func(h half) {
		ins := give(api.Phi, api.I64, 3, repeat(2, len(into))...)
		ins.Into = into
		return ways(row(jump(1)), row(ins, br(1, 1, 2)), row(br(1, 3, 1)), row(take(api.Ret)))
	}
	var list []fault
	for _, into := range [][]int{{1}, {2}, {2, 1}, {1, 1}, {2, 2}, {1, 2, 2}, {1, 1, 2}, {0, 1, 2}, {1, 2, 3}, {0, 1}, {0, 2}, {1, 3}, {-1, 1, 2}, {1, 2, 4},
		{1, math.MaxInt}, {math.MinInt, 2}, {1, 1<<32 + 2}, {0}, {0, 1, 2, 3}} {
		list = append(list, fault{"a Phi behind two ways", e, fork(into...), fork(1, 2)})
	}
	for _, into := range [][]int{{0}, {1}, {2}, {0, 1}, {0, 2}, {1, 2}, {0, 2, 1}, {1, 0, 2}, {2, 1, 0}, {0, 1, 2, 3}, {0, 1, 3}, {0, 0, 1, 2}, {0, 1, 2, 2}, {-1, 0, 1, 2}} {
		list = append(list, fault{"a Phi in a ring", e, ring(into...), ring(0, 1, 2)})
	}
	second := func(into int) func(h half) {
		return ways(row(jump(1)), row(phi(api.I64, 3, 2, 0), phi(api.I64, 4, 2, into), take(api.Ret)))
	}
	return append(list, []fault{
		{"the second Phi of a block", e, second(1), second(0)},
		{"a Phi in block 0", e, ways(row(phi(api.I64, 3, 2, 0), take(api.Ret))), ways(row(jump(1)), row(phi(api.I64, 3, 2, 0), take(api.Ret)))},
		{"a Phi in block 0 from another block", e, ways(row(phi(api.I64, 3, 2, 1), jump(1)), row(take(api.Ret))), ways(row(jump(1)), row(phi(api.I64, 3, 2, 0), take(api.Ret)))},
		{"a Phi in block 0 from no block", e, ways(row(phi(api.I64, 3, 2, -1), take(api.Ret))), nil},
		{"an entry from a block that is not reached", e, ways(row(jump(2)), row(jump(2)), row(phi(api.I64, 3, 2, 0, 2, 1), take(api.Ret))),
			ways(row(br(1, 2, 1)), row(jump(2)), row(phi(api.I64, 3, 2, 0, 2, 1), take(api.Ret)))},
	}...)
}

// useFaults are ErrUse's but for Phis.
func useFaults() []fault {
	e := api.ErrUse
	ret := row(take(api.Ret))
	add := func(to, a, b int) api.Ins { return give(api.Add, api.I64, to, a, b) }
	two := func(first, second int) func(h half) {
		return ways(row(num(api.I64, first, 1), num(api.I64, second, 1), take(api.Ret)))
	}
	over := func(first, second, third int) func(h half) {
		return ways(row(num(api.I64, first, 1), jump(2)), row(num(api.I64, second, 1), take(api.Ret)), row(num(api.I64, third, 1), jump(1)))
	}
	arg := func(n int) func(h half) { return ways(row(num(api.I64, 3, 1), add(4, n, 2), take(api.Ret))) }
	later := func(n int) func(h half) { return ways(row(num(api.I64, 3, 1), add(4, 2, n), take(api.Ret))) }
	var list []fault
	for _, to := range []int{1, 2, 4, 5, 1<<32 + 3, math.MaxInt} {
		list = append(list, fault{"the first To is " + strconv.Itoa(to), e, two(to, 4), two(3, 4)})
	}
	for _, to := range []int{1, 2, 3, 5, 1<<32 + 4, math.MaxInt} {
		list = append(list, fault{"the second To is " + strconv.Itoa(to), e, two(3, to), two(3, 4)})
	}
	for _, n := range []int{math.MinInt, -2, -1, 0, 4, 5, 6, 1<<32 + 1, math.MaxInt} {
		list = append(list, fault{"the first of the Args is " + strconv.Itoa(n), e, arg(n), arg(3)}, fault{"the second of the Args is " + strconv.Itoa(n), e, later(n), later(2)})
	}
	fork := func(a, b, c int) func(h half) {
		return ways(row(br(1, 1, 2)), row(num(api.I64, 3, 1), add(4, a, 2), jump(3)), row(num(api.I64, 5, 1), add(6, b, 2), jump(3)), row(add(7, c, 2), take(api.Ret)))
	}
	ring := func(a, b, c int) func(h half) {
		return ways(row(add(3, a, 2), jump(1)), row(add(4, b, 2), br(1, 2, 3)), row(add(5, c, 2), jump(1)), row(add(6, 4, 3), take(api.Ret)))
	}
	back := func(a, b int) func(h half) {
		return ways(row(num(api.I64, 3, 1), jump(3)), row(add(4, a, 3), take(api.Ret)), row(add(5, b, 3), jump(1)), row(num(api.I64, 6, 1), jump(2)))
	}
	return append(list, []fault{
		{"To in the order of the ways, not of the blocks", e, over(3, 5, 4), over(3, 4, 5)},
		{"To from 1 on, behind parameters", e, two(1, 2), two(3, 4)},
		{"taken ahead of its Ins", e, ways(row(add(3, 4, 2), num(api.I64, 4, 1), take(api.Ret))), ways(row(num(api.I64, 3, 1), add(4, 3, 2), take(api.Ret)))},
		{"taken by its own Ins", e, ways(row(add(3, 3, 2), take(api.Ret))), ways(row(add(3, 2, 2), take(api.Ret)))},
		{"taken by its own Ins, in a ring", e, ring(2, 4, 4), ring(2, 3, 4)},
		{"taken on the other way", e, fork(5, 5, 2), fork(3, 5, 2)},
		{"taken on the other way, from the first", e, fork(3, 3, 2), fork(3, 5, 2)},
		{"taken where the ways come together, from the first", e, fork(3, 5, 3), fork(3, 5, 2)},
		{"taken where the ways come together, from the second", e, fork(3, 5, 6), fork(3, 5, 2)},
		{"taken ahead of the ways", e, fork(7, 5, 2), fork(3, 5, 2)},
		{"taken in a ring's head, from its body", e, ring(2, 5, 4), ring(2, 3, 4)},
		{"taken ahead of a ring", e, ring(4, 3, 4), ring(2, 3, 3)},
		{"taken in a ring, from behind it", e, ring(2, 3, 6), ring(2, 3, 4)},
		{"taken above, in a block of a higher number", e, back(5, 4), back(5, 6)},
		{"taken by an end", e, as(function([]int{api.I64}, api.I64, row(br(3, 1, 2)), row(give(api.Eq, api.I1, 2, 1, 1), take(api.Ret, 1)), row(give(api.Eq, api.I1, 3, 1, 1), take(api.Ret, 1)))),
			as(function([]int{api.I64}, api.I64, row(give(api.Eq, api.I1, 2, 1, 1), br(2, 1, 2)), row(take(api.Ret, 1)), row(take(api.Ret, 1))))},
		{"taken by a Ret", e, as(function(nil, api.I64, row(take(api.Ret, 1)))), as(function(nil, api.I64, row(num(api.I64, 1, 1), take(api.Ret, 1))))},
		{"none in a function without values", e, as(function(nil, 0, row(take(api.Via, 1), take(api.Ret)))), as(function([]int{api.Fun}, 0, row(take(api.Via, 1), take(api.Ret))))},
		{"over, by a way that another goes around", e, ways(row(br(1, 1, 2)), row(num(api.I64, 3, 1), jump(2)), row(add(4, 3, 3), take(api.Ret))),
			ways(row(br(1, 1, 2)), row(num(api.I64, 3, 1), jump(3)), ret, row(add(4, 3, 3), take(api.Ret)))},
	}...)
}

// phiUseFaults are ErrUse's of Phis' entries.
func phiUseFaults() []fault {
	e := api.ErrUse
	// The Phi is 7; 3 and 4 stand on one way, 5 and 6 on the other, 8 behind it.
	fork := func(a, b int) func(h half) {
		return ways(row(br(1, 1, 2)), row(num(api.I64, 3, 1), num(api.I64, 4, 1), jump(3)), row(num(api.I64, 5, 1), num(api.I64, 6, 1), jump(3)),
			row(phi(api.I64, 7, a, 1, b, 2), num(api.I64, 8, 1), take(api.Ret)))
	}
	// The Phis are 4 and 5, in the ring's head; 3 stands ahead of the ring, 6 in its head, 7 in its body, 8 behind it.
	ring := func(a, b int) func(h half) {
		return ways(row(num(api.I64, 3, 1), jump(1)), row(phi(api.I64, 4, a, 0, b, 2), phi(api.I64, 5, 2, 0, 2, 2), num(api.I64, 6, 1), br(1, 2, 3)),
			row(num(api.I64, 7, 1), jump(1)), row(num(api.I64, 8, 1), take(api.Ret)))
	}
	// The Phi is 3, in a block that leads to itself, with 4 behind it.
	self := func(a, b int) func(h half) {
		return ways(row(jump(1)), row(phi(api.I64, 3, a, 0, b, 1), num(api.I64, 4, 1), br(1, 1, 2)), row(num(api.I64, 5, 1), take(api.Ret)))
	}
	// Two ways within the ring 1, 2, 3, 4: 3 stands in the block of one of them alone.
	within := func(b int) func(h half) {
		return ways(row(jump(1)), row(phi(api.I64, 3, 2, 0, b, 4), br(1, 2, 3)), row(num(api.I64, 4, 1), jump(4)), row(num(api.I64, 5, 1), jump(4)), row(num(api.I64, 6, 1), jump(1)))
	}
	var list []fault
	for _, n := range []int{math.MinInt, -1, 0, 9, 10, 1<<32 + 2, math.MaxInt} {
		what := "an entry takes " + strconv.Itoa(n)
		list = append(list, fault{what, e, fork(n, 6), fork(4, 6)}, fault{what, e, fork(3, n), fork(3, 5)}, fault{what, e, ring(3, n), ring(3, 7)})
	}
	return append(list, []fault{
		{"from the other way", e, fork(5, 5), fork(3, 5)},
		{"from the other way, second", e, fork(4, 4), fork(4, 6)},
		{"the two ways changed", e, fork(6, 4), fork(2, 6)},
		{"the Phi itself, without a ring", e, fork(7, 5), fork(3, 2)},
		{"what stands behind the Phi, without a ring", e, fork(3, 8), fork(3, 6)},
		{"the Phi itself, from ahead of the ring", e, ring(4, 7), ring(3, 4)},
		{"another Phi, from ahead of the ring", e, ring(5, 7), ring(3, 5)},
		{"the ring's head, from ahead of the ring", e, ring(6, 7), ring(3, 6)},
		{"the ring's body, from ahead of the ring", e, ring(7, 7), ring(2, 7)},
		{"from behind the ring", e, ring(3, 8), ring(3, 3)},
		{"itself, from ahead of a block that leads to itself", e, self(3, 3), self(2, 3)},
		{"behind it, from ahead of a block that leads to itself", e, self(4, 4), self(2, 4)},
		{"from behind a block that leads to itself", e, self(2, 5), self(2, 2)},
		{"from one of two ways within a ring", e, within(4), within(6)},
		{"from the other one of two ways within a ring", e, within(5), within(3)},
	}...)
}

// typeFaults are ErrType's: some of each Op; all of them are tried elsewhere.
func typeFaults() []fault {
	e := api.ErrType
	params := []int{api.I64, api.I1, api.Ptr, api.Fun}
	one := func(ins api.Ins) func(h half) { return as(function(params, 0, row(ins, take(api.Ret)))) }
	ret := func(result int, args ...int) func(h half) {
		return as(function(params, result, row(take(api.Ret, args...))))
	}
	call := func(op, typ, to int, args ...int) func(h half) {
		return func(h half) {
			one(give(op, typ, to, args...))(h)
			h.ins(spare, 0, 0).Sym = h.k*funcsOfHalf + cell
			if op == api.Ext {
				h.ins(spare, 0, 0).Sym = h.k * externsOfHalf
			}
		}
	}
	bare := func(typ, to int, args ...int) func(h half) {
		return func(h half) { one(with(give(api.Call, typ, to, args...), h.k*funcsOfHalf+bare))(h) }
	}
	return []fault{
		{"Num", e, one(num(api.Ptr, 5, 1)), one(num(api.I64, 5, math.MinInt64))},
		{"Num", e, one(num(api.Fun, 5, 0)), one(num(api.I1, 5, 0))},
		{"Num I1 of 2", e, one(num(api.I1, 5, 2)), one(num(api.I1, 5, 1))},
		{"Num I1 of -1", e, one(num(api.I1, 5, -1)), one(num(api.I64, 5, -1))},
		{"Num I1 of much", e, one(num(api.I1, 5, 1<<32+1)), one(num(api.I64, 5, 1<<32+1))},
		{"FunOf", e, one(give(api.FunOf, api.Ptr, 5)), one(give(api.FunOf, api.Fun, 5))},
		{"GloOf", e, one(give(api.GloOf, api.I64, 5)), one(give(api.GloOf, api.Ptr, 5))},
		{"Room", e, one(api.Ins{Op: api.Room, Type: api.I64, To: 5, Num: 1}), one(room(5, 1))},
		{"Add gives", e, one(give(api.Add, api.I1, 5, 1, 1)), one(give(api.Add, api.I64, 5, 1, 1))},
		{"Shr takes", e, one(give(api.Shr, api.I64, 5, 1, 2)), one(give(api.Shr, api.I64, 5, 1, 1))},
		{"Eq gives", e, one(give(api.Eq, api.I64, 5, 1, 1)), one(give(api.Eq, api.I1, 5, 1, 1))},
		{"Eq takes I1", e, one(give(api.Eq, api.I1, 5, 2, 2)), one(give(api.Eq, api.I1, 5, 1, 1))},
		{"Not", e, one(give(api.Not, api.I1, 5, 1)), one(give(api.Not, api.I1, 5, 2))},
		{"Sel by I64", e, one(give(api.Sel, api.I64, 5, 1, 1, 1)), one(give(api.Sel, api.I64, 5, 2, 1, 1))},
		{"Sel of two types", e, one(give(api.Sel, api.Ptr, 5, 2, 3, 4)), one(give(api.Sel, api.Ptr, 5, 2, 3, 3))},
		{"Sel gives", e, one(give(api.Sel, api.I64, 5, 2, 4, 4)), one(give(api.Sel, api.Fun, 5, 2, 4, 4))},
		{"At", e, one(give(api.At, api.Ptr, 5, 1, 3)), one(give(api.At, api.Ptr, 5, 3, 1))},
		{"Load", e, one(give(api.Load, api.I64, 5, 1)), one(give(api.Load, api.I64, 5, 3))},
		{"Store", e, one(take(api.Store, 3, 2)), one(take(api.Store, 3, 1))},
		{"Tab", e, one(give(api.Tab, api.Fun, 5, 2)), one(give(api.Tab, api.Fun, 5, 1))},
		{"Via takes", e, one(give(api.Via, api.I64, 5, 1, 4)), one(give(api.Via, api.I64, 5, 4, 1))},
		{"Via gives", e, one(give(api.Via, api.Ptr, 5, 4)), one(give(api.Via, api.Fun, 5, 4, 3, 2, 1))},
		{"Call of fewer", e, call(api.Call, api.I64, 5), call(api.Call, api.I64, 5, 1)},
		{"Call of more", e, call(api.Call, api.I64, 5, 1, 1), call(api.Call, api.I64, 5, 1)},
		{"Call takes", e, call(api.Call, api.I64, 5, 2), call(api.Call, api.I64, 5, 1)},
		{"Call gives", e, call(api.Call, api.I1, 5, 1), call(api.Call, api.I64, 5, 1)},
		{"Call gives nothing", e, call(api.Call, 0, 0, 1), call(api.Call, api.I64, 5, 1)},
		{"Call gives what is not answered", e, bare(api.I64, 5), bare(0, 0)},
		{"Call hands in what is not taken", e, bare(0, 0, 1), bare(0, 0)},
		{"Ext of fewer", e, call(api.Ext, api.I1, 5, 1), call(api.Ext, api.I1, 5, 1, 2)},
		{"Ext of more", e, call(api.Ext, api.I1, 5, 1, 2, 2), call(api.Ext, api.I1, 5, 1, 2)},
		{"Ext takes", e, call(api.Ext, api.I1, 5, 2, 1), call(api.Ext, api.I1, 5, 1, 2)},
		{"Ext gives", e, call(api.Ext, api.I64, 5, 1, 2), call(api.Ext, api.I1, 5, 1, 2)},
		{"Ext gives nothing", e, call(api.Ext, 0, 0, 1, 2), call(api.Ext, api.I1, 5, 1, 2)},
		{"Phi takes", e, as(function(params, 0, row(jump(1)), row(phi(api.I64, 5, 2, 0), take(api.Ret)))), as(function(params, 0, row(jump(1)), row(phi(api.I1, 5, 2, 0), take(api.Ret))))},
		{"Br", e, as(function(params, 0, row(br(1, 1, 2)), row(take(api.Ret)), row(take(api.Stop)))), as(function(params, 0, row(br(2, 1, 2)), row(take(api.Ret)), row(take(api.Stop))))},
		{"Ret of one for nothing", e, ret(0, 1), ret(0)},
		{"Ret of nothing", e, ret(api.I64), ret(api.I64, 1)},
		{"Ret of another one", e, ret(api.I64, 2), ret(api.I1, 2)},
		{"Ret of a pointer", e, ret(api.Fun, 3), ret(api.Fun, 4)},
	}
}
