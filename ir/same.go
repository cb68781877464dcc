package ir

import (
	"slices"

	"planish/api"
)

// Same tells whether all fields of a and b are alike, list by list (P3.2).
func Same(a, b api.Module) bool {
	return slices.EqualFunc(a.Externs, b.Externs, sameExtern) &&
		slices.EqualFunc(a.Globals, b.Globals, sameGlobal) &&
		slices.EqualFunc(a.Tables, b.Tables, sameTable) &&
		slices.EqualFunc(a.Funcs, b.Funcs, SameFunc)
}

// SameFunc tells whether all fields of a and b are alike, list by list (P3.2).
func SameFunc(a, b api.Func) bool {
	return a.Name == b.Name && a.Out == b.Out && a.Result == b.Result &&
		slices.Equal(a.Params, b.Params) &&
		slices.EqualFunc(a.Blocks, b.Blocks, sameBlock)
}

func sameExtern(a, b api.Extern) bool {
	return a.Name == b.Name && a.Result == b.Result && slices.Equal(a.Params, b.Params)
}

func sameGlobal(a, b api.Global) bool {
	return a.Name == b.Name && slices.Equal(a.Cells, b.Cells)
}

func sameTable(a, b api.Table) bool {
	return a.Name == b.Name && slices.Equal(a.Funcs, b.Funcs)
}

func sameBlock(a, b api.Block) bool {
	return slices.EqualFunc(a.Ins, b.Ins, sameIns)
}

func sameIns(a, b api.Ins) bool {
	return a.Op == b.Op && a.Type == b.Type && a.To == b.To && a.Sym == b.Sym && a.Num == b.Num &&
		slices.Equal(a.Args, b.Args) && slices.Equal(a.Into, b.Into)
}
