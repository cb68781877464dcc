package wf

import (
	"math"
	"reflect"
	"slices"
	"strconv"

	"planish/api"
)

// The functions of a half of base, by their places in it.
const (
	loop  = iota // Out; a ring, calls of all kinds
	cell         // one I64, answers an I64
	hand         // takes a Ptr and a Fun, answers a Fun
	fork         // two ways, and a Phi
	ops          // an Ins of each Op that the others have none of
	bare         // nothing in, nothing out; called
	spare        // nothing in, nothing out; nobody calls it
	funcsOfHalf
)

// How many of the others a half of base has: other numbers each, so that a Sym held against the wrong list shows.
const (
	externsOfHalf = 2
	globalsOfHalf = 3
	tablesOfHalf  = 1
)

// base is a module that may be, of two halves that are alike but for the places and the names: a fault can stand in the
// first, with the second behind it, or the other way about.
func base() api.Module {
	var m api.Module
	for k := range 2 {
		mark := strconv.Itoa(k)
		first := k * funcsOfHalf
		m.Externs = append(m.Externs, api.Extern{Name: "ask" + mark, Params: []int{api.I64, api.I1}, Result: api.I1}, api.Extern{Name: "tell" + mark})
		for _, name := range []string{"x", "y", "z"} {
			m.Globals = append(m.Globals, api.Global{Name: name + mark, Cells: []int64{math.MinInt64, 0, 7}})
		}
		m.Tables = append(m.Tables, api.Table{Name: "row" + mark, Funcs: []int{first + cell, -1, first + hand}})
		m.Funcs = append(m.Funcs, loopFunc(k), cellFunc(), handFunc(first+hand), forkFunc(), opsFunc(), bareFunc(first+bare, k*externsOfHalf+1), spareFunc())
		for i, name := range []string{"loop", "cell", "hand", "fork", "ops", "bare", "spare"} {
			m.Funcs[first+i].Name = name + mark
		}
	}
	return m
}

func loopFunc(k int) api.Func {
	return api.Func{Out: true, Params: []int{api.I64}, Result: api.I64, Blocks: []api.Block{
		row(num(api.I64, 2, 1), with(give(api.GloOf, api.Ptr, 3), k*globalsOfHalf+1), jump(1)),
		row(phi(api.I64, 4, 1, 0, 6, 2), give(api.Lt, api.I1, 5, 4, 2), br(5, 3, 2)),
		row(give(api.Sub, api.I64, 6, 4, 2), take(api.Store, 3, 6), jump(1)),
		row(
			num(api.I64, 7, 0), with(give(api.Tab, api.Fun, 8, 7), k), give(api.Via, api.I64, 9, 8, 4), take(api.Via, 8),
			with(give(api.Call, api.I64, 10, 9), k*funcsOfHalf+cell), with(give(api.Ext, api.I1, 11, 10, 5), k*externsOfHalf),
			give(api.Sel, api.I64, 12, 11, 10, 9), take(api.Ret, 12)),
	}}
}

func cellFunc() api.Func {
	return api.Func{Params: []int{api.I64}, Result: api.I64, Blocks: []api.Block{
		row(room(2, 4), give(api.At, api.Ptr, 3, 2, 1), give(api.Load, api.I64, 4, 3), take(api.Ret, 4)),
	}}
}

func handFunc(self int) api.Func {
	return api.Func{Params: []int{api.Ptr, api.Fun}, Result: api.Fun, Blocks: []api.Block{
		row(with(give(api.FunOf, api.Fun, 3), self), take(api.Ret, 3)),
	}}
}

func forkFunc() api.Func {
	return api.Func{Out: true, Params: []int{api.I1}, Result: api.I1, Blocks: []api.Block{
		row(br(1, 1, 2)),
		row(give(api.Not, api.I1, 2, 1), jump(3)),
		row(num(api.I1, 3, 1), jump(3)),
		row(phi(api.I1, 4, 2, 1, 3, 2), phi(api.I1, 5, 1, 1, 1, 2), take(api.Ret, 4)),
	}}
}

func opsFunc() api.Func {
	var list []api.Ins
	for op := api.Add; op <= api.Shr; op++ {
		list = append(list, give(op, api.I64, 3+len(list), 1, 2))
	}
	list = append(list, give(api.Eq, api.I1, 3+len(list), 1, 2), take(api.Stop))
	return api.Func{Params: []int{api.I64, api.I64}, Result: api.I64, Blocks: []api.Block{row(list...)}}
}

func bareFunc(self, extern int) api.Func {
	return api.Func{Blocks: []api.Block{row(with(take(api.Call), self), with(take(api.Ext), extern), take(api.Ret))}}
}

func spareFunc() api.Func { return function(nil, 0, row(take(api.Ret))) }

func function(params []int, result int, blocks ...api.Block) api.Func {
	return api.Func{Params: params, Result: result, Blocks: blocks}
}

func row(list ...api.Ins) api.Block { return api.Block{Ins: list} }

func give(op, typ, to int, args ...int) api.Ins {
	return api.Ins{Op: op, Type: typ, To: to, Args: args}
}

func take(op int, args ...int) api.Ins { return api.Ins{Op: op, Args: args} }

func num(typ, to int, n int64) api.Ins { return api.Ins{Op: api.Num, Type: typ, To: to, Num: n} }

func room(to int, n int64) api.Ins { return api.Ins{Op: api.Room, Type: api.Ptr, To: to, Num: n} }

func with(ins api.Ins, sym int) api.Ins {
	ins.Sym = sym
	return ins
}

func jump(to int) api.Ins { return api.Ins{Op: api.Jump, Into: []int{to}} }

func br(arg int, to ...int) api.Ins { return api.Ins{Op: api.Br, Args: []int{arg}, Into: to} }

// phi has entries of a value and a block each.
func phi(typ, to int, entries ...int) api.Ins {
	ins := give(api.Phi, typ, to)
	for i := 0; i+1 < len(entries); i += 2 {
		ins.Args = append(ins.Args, entries[i])
		ins.Into = append(ins.Into, entries[i+1])
	}
	return ins
}

func repeat(typ, count int) []int { return slices.Repeat([]int{typ}, count) }

// half is one of the two of a base that may be changed.
type half struct {
	m *api.Module
	k int
}

func (h half) function(i int) *api.Func { return &h.m.Funcs[h.k*funcsOfHalf+i] }

func (h half) ins(f, b, i int) *api.Ins { return &h.function(f).Blocks[b].Ins[i] }

func (h half) extern(i int) *api.Extern { return &h.m.Externs[h.k*externsOfHalf+i] }

func (h half) global() *api.Global { return &h.m.Globals[h.k*globalsOfHalf] }

func (h half) table() *api.Table { return &h.m.Tables[h.k*tablesOfHalf] }

// oddNumbers are numbers that are few things' number, or no thing's.
func oddNumbers() []int {
	return []int{math.MinInt, math.MinInt + 1, -1 << 32, -3, -2, -1, 0, 1, 2, 3, 4, 5, 6, 7, 8, 12, 14, 17, 50, 1 << 32, 1<<32 + 1, math.MaxInt - 1, math.MaxInt}
}

// dice gives numbers that look thrown, the same ones in every run.
type dice uint64

func (d *dice) below(n int) int {
	*d = *d*6364136223846793005 + 1442695040888963407
	return int(uint64(*d)>>33) % n
}

func (d *dice) odd() int {
	if d.below(3) > 0 {
		return d.below(6)
	}
	return oddNumbers()[d.below(len(oddNumbers()))]
}

// eachPart shows each field and each item of what thing points to, with all that hangs on them.
func eachPart(thing any, show func(what string, part reflect.Value)) {
	showParts("", reflect.ValueOf(thing).Elem(), show)
}

func showParts(what string, v reflect.Value, show func(what string, part reflect.Value)) {
	switch v.Kind() {
	case reflect.Struct:
		for i := range v.NumField() {
			name := what + "." + v.Type().Field(i).Name
			show(name, v.Field(i))
			showParts(name, v.Field(i), show)
		}
	case reflect.Slice:
		for i := range v.Len() {
			place := what + "[" + strconv.Itoa(i) + "]"
			show(place, v.Index(i))
			showParts(place, v.Index(i), show)
		}
	}
}

// remade copies all of m by means of its own; each list with that many empty items behind its length, and where it has
// no items as nil, or as an empty list.
func remade(m api.Module, room int, asNil bool) api.Module {
	return remadeValue(reflect.ValueOf(m), room, asNil).Interface().(api.Module)
}

func remadeValue(v reflect.Value, room int, asNil bool) reflect.Value {
	switch v.Kind() {
	case reflect.Struct:
		made := reflect.New(v.Type()).Elem()
		for i := range v.NumField() {
			made.Field(i).Set(remadeValue(v.Field(i), room, asNil))
		}
		return made
	case reflect.Slice:
		if v.Len() == 0 && asNil {
			return reflect.Zero(v.Type())
		}
		made := reflect.MakeSlice(v.Type(), v.Len()+room, v.Len()+room)
		for i := range v.Len() {
			made.Index(i).Set(remadeValue(v.Index(i), room, asNil))
		}
		return made.Slice(0, v.Len())
	}
	return v
}

// memory is a copy of all of m, with what lies behind the length of its lists.
func memory(m api.Module) api.Module {
	return memoryOf(reflect.ValueOf(m)).Interface().(api.Module)
}

func memoryOf(v reflect.Value) reflect.Value {
	switch v.Kind() {
	case reflect.Struct:
		made := reflect.New(v.Type()).Elem()
		for i := range v.NumField() {
			made.Field(i).Set(memoryOf(v.Field(i)))
		}
		return made
	case reflect.Slice:
		made := reflect.MakeSlice(v.Type(), v.Cap(), v.Cap())
		for i := range v.Cap() {
			made.Index(i).Set(memoryOf(v.Slice(0, v.Cap()).Index(i)))
		}
		return made
	}
	return v
}
