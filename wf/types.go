package wf

import (
	"slices"

	"planish/api"
	"planish/ir"
)

// typeFault tells whether an Ins of m gives or takes values of types that do not fit (P6.3, 7).
func typeFault(m api.Module) bool {
	for _, f := range m.Funcs {
		types := ir.Types(f)
		isBad := func(ins api.Ins) bool { return !typesFit(m, f.Result, typed{ins, types}) }
		for _, b := range f.Blocks {
			if slices.ContainsFunc(b.Ins, isBad) {
				return true
			}
		}
	}
	return false
}

// typed is an Ins beside the types, by value, of its function.
type typed struct {
	api.Ins
	types []int
}

// is tells whether it gives that type (0: nothing) and takes just values of those types.
func (t typed) is(gives int, takes ...int) bool {
	return t.Type == gives && slices.EqualFunc(t.Args, takes, func(arg, typ int) bool { return t.types[arg] == typ })
}

// typesFit tells whether an Ins of a function with that Result has the types that its Op asks for.
func typesFit(m api.Module, result int, t typed) bool {
	switch t.Op {
	case api.Num:
		return t.is(api.I64) || t.is(api.I1) && (t.Num == 0 || t.Num == 1)
	case api.FunOf:
		return t.is(api.Fun)
	case api.GloOf, api.Room:
		return t.is(api.Ptr)
	case api.Add, api.Sub, api.Mul, api.Div, api.Rem, api.And, api.Or, api.Xor, api.Shl, api.Shr:
		return t.is(api.I64, api.I64, api.I64)
	case api.Eq, api.Lt:
		return t.is(api.I1, api.I64, api.I64)
	case api.Not:
		return t.is(api.I1, api.I1)
	case api.Sel:
		return t.is(t.Type, api.I1, t.Type, t.Type)
	case api.At:
		return t.is(api.Ptr, api.Ptr, api.I64)
	case api.Load:
		return t.is(api.I64, api.Ptr)
	case api.Store:
		return t.is(0, api.Ptr, api.I64)
	case api.Tab:
		return t.is(api.Fun, api.I64)
	case api.Call:
		return t.is(m.Funcs[t.Sym].Result, m.Funcs[t.Sym].Params...)
	case api.Ext:
		return t.is(m.Externs[t.Sym].Result, m.Externs[t.Sym].Params...)
	case api.Via:
		return t.types[t.Args[0]] == api.Fun && !isNoResult(t.Type)
	case api.Phi:
		return t.is(t.Type, slices.Repeat([]int{t.Type}, len(t.Args))...)
	case api.Br:
		return t.is(0, api.I1)
	case api.Ret:
		return retFits(result, t)
	}
	return true
}

func retFits(result int, t typed) bool {
	if result == 0 {
		return t.is(0)
	}
	return t.is(0, result)
}
