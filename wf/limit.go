package wf

import (
	"slices"

	"planish/api"
	"planish/ir"
)

// limitFault tells whether m has more of something than may be, or none of what must be there (P6.3, 1).
func limitFault(m api.Module) bool {
	return len(m.Funcs) > api.MaxFuncs || len(m.Externs) > api.MaxExterns ||
		len(m.Globals) > api.MaxGlobals || len(m.Tables) > api.MaxTables ||
		slices.ContainsFunc(m.Externs, func(e api.Extern) bool { return len(e.Params) > api.MaxParams }) ||
		slices.ContainsFunc(m.Globals, func(g api.Global) bool { return !isWithin(len(g.Cells), api.MaxCells) }) ||
		slices.ContainsFunc(m.Tables, func(t api.Table) bool { return !isWithin(len(t.Funcs), api.MaxEntries) }) ||
		slices.ContainsFunc(m.Funcs, funcLimitFault)
}

func funcLimitFault(f api.Func) bool {
	return len(f.Params) > api.MaxParams || !isWithin(len(f.Blocks), api.MaxBlocks) || ir.Size(f) > api.MaxIns
}

func isWithin(count, most int) bool { return count >= 1 && count <= most }
