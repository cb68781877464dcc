package wf

import (
	"math"
	"strconv"
	"strings"

	"planish/api"
)

// fault is a change of a half of base for which it may not be, and for one of P6.3's seven reasons alone; beside it a
// near change for which it may still be (none: base itself is the neighbour).
type fault struct {
	name      string
	e         api.Errno
	bad, good func(h half)
}

// as puts f in place of the function that nobody calls.
func as(f api.Func) func(h half) {
	return func(h half) {
		name := h.function(spare).Name
		*h.function(spare) = remade(api.Module{Funcs: []api.Func{f}}, 0, true).Funcs[0]
		h.function(spare).Name = name
	}
}

// on changes an Ins.
func on(f, b, i int, change func(ins *api.Ins)) func(h half) {
	return func(h half) { change(h.ins(f, b, i)) }
}

func faults() []fault {
	var all []fault
	for _, some := range [][]fault{limitFaults(), formFaults(), typeFormFaults(), nameFaults(), symFaults(), rowFaults(), leadFaults(), entryFaults(), useFaults(), phiUseFaults(), typeFaults()} {
		all = append(all, some...)
	}
	return all
}

func addFuncs(upTo int) func(h half) {
	return func(h half) {
		for len(h.m.Funcs) < upTo {
			f := spareFunc()
			f.Name = "more" + strconv.Itoa(len(h.m.Funcs))
			h.m.Funcs = append(h.m.Funcs, f)
		}
	}
}

func addExterns(upTo int) func(h half) {
	return func(h half) {
		for len(h.m.Externs) < upTo {
			h.m.Externs = append(h.m.Externs, api.Extern{Name: "far" + strconv.Itoa(len(h.m.Externs))})
		}
	}
}

func addGlobals(upTo int) func(h half) {
	return func(h half) {
		for len(h.m.Globals) < upTo {
			h.m.Globals = append(h.m.Globals, api.Global{Name: "box" + strconv.Itoa(len(h.m.Globals)), Cells: []int64{1}})
		}
	}
}

func addTables(upTo int) func(h half) {
	return func(h half) {
		for len(h.m.Tables) < upTo {
			h.m.Tables = append(h.m.Tables, api.Table{Name: "list" + strconv.Itoa(len(h.m.Tables)), Funcs: []int{-1}})
		}
	}
}

func cells(count int) func(h half) {
	return func(h half) { h.global().Cells = make([]int64, count) }
}

func entries(count int) func(h half) {
	return func(h half) { h.table().Funcs = make([]int, count) }
}

// inARow is a function of that many blocks, one behind the other.
func inARow(count int) api.Func {
	var f api.Func
	for b := 1; b < count; b++ {
		f.Blocks = append(f.Blocks, row(jump(b)))
	}
	if count > 0 {
		f.Blocks = append(f.Blocks, row(take(api.Ret)))
	}
	return f
}

// ofSize is a function of that many Ins, over that many blocks.
func ofSize(size, blocks int) api.Func {
	f := inARow(blocks)
	last := &f.Blocks[blocks-1]
	last.Ins = nil
	for to := 1; to <= size-blocks; to++ {
		last.Ins = append(last.Ins, num(api.I64, to, 5))
	}
	last.Ins = append(last.Ins, take(api.Ret))
	return f
}

func externParams(params []int) func(h half) {
	return func(h half) {
		h.extern(1).Params, h.ins(bare, 0, 1).Op, h.ins(bare, 0, 1).Sym = params, api.Call, h.k*funcsOfHalf+bare
	}
}

func limitFaults() []fault {
	e := api.ErrLimit
	return []fault{
		{"functions", e, addFuncs(api.MaxFuncs + 1), addFuncs(api.MaxFuncs)},
		{"externs", e, addExterns(api.MaxExterns + 1), addExterns(api.MaxExterns)},
		{"globals", e, addGlobals(api.MaxGlobals + 1), addGlobals(api.MaxGlobals)},
		{"tables", e, addTables(api.MaxTables + 1), addTables(api.MaxTables)},
		{"parameters", e, as(function(repeat(api.Ptr, api.MaxParams+1), 0, row(take(api.Ret)))), as(function(repeat(api.Ptr, api.MaxParams), 0, row(take(api.Ret))))},
		{"parameters of an extern", e, externParams(repeat(api.I1, api.MaxParams+1)), externParams(repeat(api.I1, api.MaxParams))},
		{"no cells", e, cells(0), cells(1)},
		{"cells", e, cells(api.MaxCells + 1), cells(api.MaxCells)},
		{"no entries", e, entries(0), entries(1)},
		{"entries", e, entries(api.MaxEntries + 1), entries(api.MaxEntries)},
		{"no blocks", e, as(inARow(0)), as(inARow(1))},
		{"blocks", e, as(inARow(api.MaxBlocks + 1)), as(inARow(api.MaxBlocks))},
		{"a Size in one block", e, as(ofSize(api.MaxIns+1, 1)), as(ofSize(api.MaxIns, 1))},
		{"a Size in many blocks", e, as(ofSize(api.MaxIns+1, api.MaxBlocks)), as(ofSize(api.MaxIns, api.MaxBlocks))},
	}
}

// viaOf is a function with a Via of that many Args, or none.
func viaOf(count int) api.Func {
	return function([]int{api.Fun}, 0, row(take(api.Via, repeat(1, count)...), take(api.Ret)))
}

// callOf is a change for a Call or an Ext of the function or extern that nobody else calls, with that many Args.
func callOf(op, count int) func(h half) {
	return func(h half) {
		self := h.k*funcsOfHalf + spare
		as(function(repeat(api.I64, api.MaxParams), 0, row(with(take(op, repeat(1, count)...), self), take(api.Ret))))(h)
		if op == api.Ext {
			externParams(repeat(api.I64, api.MaxParams))(h)
			h.ins(spare, 0, 0).Sym = h.k*externsOfHalf + 1
		}
	}
}

func formFaults() []fault {
	e := api.ErrForm
	var list []fault
	for _, op := range noOps() {
		list = append(list, fault{"an Op that is none: " + strconv.Itoa(op), e, on(spare, 0, 0, func(ins *api.Ins) { ins.Op = op }), nil})
	}
	for _, n := range []int64{math.MinInt64, -1, 0, api.MaxCells + 1, 1 << 32, math.MaxInt64} {
		list = append(list, fault{"a Room of " + strconv.FormatInt(n, 10), e, on(cell, 0, 0, func(ins *api.Ins) { ins.Num = n }), nil})
	}
	return append(list, []fault{
		{"a Room of one more", e, on(cell, 0, 0, func(ins *api.Ins) { ins.Num = api.MaxCells + 1 }), on(cell, 0, 0, func(ins *api.Ins) { ins.Num = api.MaxCells })},
		{"a Room of none", e, on(cell, 0, 0, func(ins *api.Ins) { ins.Num = 0 }), on(cell, 0, 0, func(ins *api.Ins) { ins.Num = 1 })},
		{"a Phi of no entries", e, on(fork, 3, 0, func(ins *api.Ins) { ins.Args, ins.Into = nil, nil }), nil},
		{"a Phi of more Args", e, on(fork, 3, 0, func(ins *api.Ins) { ins.Args = []int{2, 3, 3} }), nil},
		{"a Phi of fewer Args", e, on(fork, 3, 0, func(ins *api.Ins) { ins.Args = []int{2} }), nil},
		{"a Phi of no Args", e, on(fork, 3, 0, func(ins *api.Ins) { ins.Args = nil }), nil},
		{"a Phi of more Into", e, on(fork, 3, 0, func(ins *api.Ins) { ins.Into = []int{1, 2, 2} }), nil},
		{"a Phi of no Into", e, on(fork, 3, 0, func(ins *api.Ins) { ins.Into = nil }), nil},
		{"a Ret of two", e, as(function([]int{api.I1}, api.I1, row(take(api.Ret, 1, 1)))), as(function([]int{api.I1}, api.I1, row(take(api.Ret, 1))))},
		{"a Ret with Into", e, on(spare, 0, 0, func(ins *api.Ins) { ins.Into = []int{1} }), nil},
		{"a Via of none", e, as(viaOf(0)), as(viaOf(1))},
		{"a Via of too many", e, as(viaOf(api.MaxParams + 2)), as(viaOf(api.MaxParams + 1))},
		{"a Via with Into", e, on(loop, 3, 2, func(ins *api.Ins) { ins.Into = []int{1} }), nil},
		{"a Call of too many", e, callOf(api.Call, api.MaxParams+1), callOf(api.Call, api.MaxParams)},
		{"a Call with Into", e, on(bare, 0, 0, func(ins *api.Ins) { ins.Into = []int{1} }), nil},
		{"an Ext of too many", e, callOf(api.Ext, api.MaxParams+1), callOf(api.Ext, api.MaxParams)},
		{"an Ext with Into", e, on(bare, 0, 1, func(ins *api.Ins) { ins.Into = []int{1} }), nil},
		{"a To of a Call that gives nothing", e, on(bare, 0, 0, func(ins *api.Ins) { ins.To = 1 }), nil},
		{"a To of an Ext that gives nothing", e, on(bare, 0, 1, func(ins *api.Ins) { ins.To = 1 }), nil},
		{"a To of a Via that gives nothing", e, on(loop, 3, 3, func(ins *api.Ins) { ins.To = 10 }), nil},
	}...)
}

// typeFormFaults are those of Params and Results.
func typeFormFaults() []fault {
	var list []fault
	add := func(name string, typ int, bad, good func(h half)) {
		list = append(list, fault{name + " " + strconv.Itoa(typ), api.ErrForm, bad, good})
	}
	param := func(out bool, typ int) func(h half) {
		return as(api.Func{Out: out, Params: []int{api.I64, typ}, Blocks: []api.Block{row(take(api.Ret))}})
	}
	result := func(out bool, typ int) func(h half) {
		return as(api.Func{Out: out, Result: typ, Blocks: []api.Block{row(take(api.Stop))}})
	}
	answer := func(typ int) func(h half) {
		return func(h half) { externParams(nil)(h); h.extern(1).Result = typ }
	}
	for _, typ := range []int{math.MinInt, -1, 0, 5, 6, 1<<32 + api.I64, math.MaxInt} {
		add("a parameter of", typ, param(false, typ), param(false, api.Fun))
		add("an Out parameter of", typ, param(true, typ), param(true, api.I64))
		add("an extern's parameter of", typ, externParams([]int{api.I64, typ}), externParams([]int{api.I64, api.I1}))
	}
	for _, typ := range []int{math.MinInt, -1, api.Ptr, 5, 6, 1<<32 + api.I64, math.MaxInt} {
		add("a Result of", typ, result(false, typ), result(false, api.Fun))
		add("an Out Result of", typ, result(true, typ), result(true, 0))
		add("an extern's Result of", typ, answer(typ), answer(0))
	}
	for _, typ := range []int{api.Ptr, api.Fun} {
		add("an Out parameter of", typ, param(true, typ), param(false, typ))
		add("an extern's parameter of", typ, externParams([]int{typ}), externParams([]int{api.I1, api.I64}))
	}
	add("an Out Result of", api.Fun, result(true, api.Fun), result(false, api.Fun))
	add("an Out Result of", api.Fun, result(true, api.Fun), result(true, api.I1))
	add("an Out Result of", api.Fun, result(true, api.Fun), result(true, api.I64))
	add("a Result of", api.Ptr, result(false, api.Ptr), result(false, api.I1))
	add("a Result of", api.Ptr, result(false, api.Ptr), result(false, api.I64))
	add("an extern's Result of", api.Fun, answer(api.Fun), answer(api.I1))
	add("an extern's Result of", api.Fun, answer(api.Fun), answer(api.I64))
	return list
}

// nameSpots are names of base, whichever half is asked: of each kind one of the first half and one of the second.
func nameSpots(h half) []*string {
	return []*string{
		&h.m.Externs[0].Name, &h.m.Externs[3].Name, &h.m.Globals[1].Name, &h.m.Globals[5].Name,
		&h.m.Tables[0].Name, &h.m.Tables[1].Name, &h.m.Funcs[2].Name, &h.m.Funcs[2*funcsOfHalf-1].Name,
	}
}

func nameFaults() []fault {
	var list []fault
	called := func(i int, name string) func(h half) { return func(h half) { *nameSpots(h)[i] = name } }
	alike := func(i, k int) func(h half) { return func(h half) { *nameSpots(h)[i] = *nameSpots(h)[k] } }
	longest := strings.Repeat("n", api.MaxName)
	for i := range 8 {
		what := "name " + strconv.Itoa(i)
		for _, name := range []string{"", "A", "_a", "0a", "a-b", "\xff", longest + "n"} {
			list = append(list, fault{what + ": " + name, api.ErrName, called(i, name), called(i, longest)})
		}
		for k := range 8 {
			if i != k {
				list = append(list, fault{what + " as name " + strconv.Itoa(k), api.ErrName, alike(i, k), called(i, "a"+longest[1:])})
			}
		}
	}
	return list
}

func symFaults() []fault {
	var list []fault
	for _, s := range []struct {
		name            string
		f, b, i, counts int
	}{
		{"FunOf", hand, 0, 0, 2 * funcsOfHalf}, {"Call", bare, 0, 0, 2 * funcsOfHalf}, {"GloOf", loop, 0, 1, 2 * globalsOfHalf},
		{"Ext", bare, 0, 1, 2 * externsOfHalf}, {"Tab", loop, 3, 1, 2 * tablesOfHalf},
	} {
		last := on(s.f, s.b, s.i, func(ins *api.Ins) { ins.Sym = s.counts - 1 })
		for _, sym := range []int{math.MinInt, -2, -1, s.counts, s.counts + 1, 1 << 32, math.MaxInt} {
			bad := on(s.f, s.b, s.i, func(ins *api.Ins) { ins.Sym = sym })
			list = append(list, fault{s.name + " of " + strconv.Itoa(sym), api.ErrSym, bad, last})
		}
	}
	entry := func(i, n int) func(h half) { return func(h half) { h.table().Funcs[i] = n } }
	for i := range 3 {
		for _, n := range []int{math.MinInt, -3, -2, 2 * funcsOfHalf, 2*funcsOfHalf + 1, 1 << 32, math.MaxInt} {
			what := "entry " + strconv.Itoa(i) + ": " + strconv.Itoa(n)
			list = append(list, fault{what, api.ErrSym, entry(i, n), entry(i, 2*funcsOfHalf-1)}, fault{what, api.ErrSym, entry(i, n), entry(i, -1)})
		}
	}
	return list
}
