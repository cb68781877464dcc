package wf

import (
	"slices"

	"planish/api"
)

// formFault tells whether a part of m may not be, whatever stands beside it (P6.3, 2).
func formFault(m api.Module) bool {
	return slices.ContainsFunc(m.Externs, externFormFault) || slices.ContainsFunc(m.Funcs, funcFormFault)
}

func externFormFault(e api.Extern) bool {
	return slices.ContainsFunc(e.Params, isInner) || e.Result != 0 && isInner(e.Result)
}

func funcFormFault(f api.Func) bool {
	return slices.ContainsFunc(f.Params, isNoType) || isNoResult(f.Result) ||
		f.Out && (slices.ContainsFunc(f.Params, isInner) || f.Result != 0 && isInner(f.Result)) ||
		slices.ContainsFunc(f.Blocks, blockFormFault)
}

func isNoType(typ int) bool { return typ < api.I64 || typ > api.Fun }

// isInner tells whether values of that type, or what is no type, may not be handed to the outside, nor come from there.
func isInner(typ int) bool { return typ != api.I64 && typ != api.I1 }

// isNoResult tells whether no function may answer that type: pointers are handed in alone.
func isNoResult(typ int) bool { return typ != 0 && (isNoType(typ) || typ == api.Ptr) }

func blockFormFault(b api.Block) bool { return slices.ContainsFunc(b.Ins, insFormFault) }

func insFormFault(ins api.Ins) bool {
	return ins.Op < api.Num || ins.Op > api.Stop || countFault(ins) || extraFault(ins) || giveFault(ins)
}

// countFault tells whether ins has other Args or Into than its Op asks for.
func countFault(ins api.Ins) bool {
	args, into, _, _ := Mark(ins.Op)
	count := len(ins.Args)
	switch ins.Op {
	case api.Phi:
		return count < 1 || count != len(ins.Into)
	case api.Ret:
		return count > 1 || len(ins.Into) != into
	case api.Via:
		return !isWithin(count, api.MaxParams+1) || len(ins.Into) != into
	case api.Call, api.Ext:
		return count > api.MaxParams || len(ins.Into) != into
	}
	return count != args || len(ins.Into) != into
}

// extraFault tells whether ins has a Sym or a Num that its Op has none of, or a Room no cells, or too many.
func extraFault(ins api.Ins) bool {
	_, _, sym, num := Mark(ins.Op)
	return !sym && ins.Sym != 0 || !num && ins.Num != 0 ||
		ins.Op == api.Room && (ins.Num < 1 || ins.Num > api.MaxCells)
}

// giveFault tells whether ins gives something where its Op gives nothing, or nothing where it must, or its To says
// otherwise than its Type.
func giveFault(ins api.Ins) bool {
	if ins.Type == 0 {
		return mustGive(ins.Op) || ins.To != 0
	}
	return isNoType(ins.Type) || !mayGive(ins.Op) || ins.To < 1
}

func mayGive(op int) bool { return op != api.Store && !Ends(op) }

func mustGive(op int) bool {
	return mayGive(op) && op != api.Call && op != api.Ext && op != api.Via
}
