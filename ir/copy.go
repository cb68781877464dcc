package ir

import "planish/api"

// Copy gives all of m, in new memory (P3.2).
func Copy(m api.Module) api.Module {
	return api.Module{
		Externs: copyEach(m.Externs, copyExtern),
		Globals: copyEach(m.Globals, copyGlobal),
		Tables:  copyEach(m.Tables, copyTable),
		Funcs:   copyEach(m.Funcs, copyFunc),
	}
}

func copyExtern(e api.Extern) api.Extern {
	e.Params = copyList(e.Params)
	return e
}

func copyGlobal(g api.Global) api.Global {
	g.Cells = copyList(g.Cells)
	return g
}

func copyTable(t api.Table) api.Table {
	t.Funcs = copyList(t.Funcs)
	return t
}

func copyFunc(f api.Func) api.Func {
	f.Params = copyList(f.Params)
	f.Blocks = copyEach(f.Blocks, copyBlock)
	return f
}

func copyBlock(b api.Block) api.Block {
	return api.Block{Ins: copyEach(b.Ins, copyIns)}
}

func copyIns(ins api.Ins) api.Ins {
	ins.Args = copyList(ins.Args)
	ins.Into = copyList(ins.Into)
	return ins
}

// copyEach copies a list whose items have lists of their own: copyOne copies an item with all that hangs on it.
func copyEach[T any](list []T, copyOne func(T) T) []T {
	copied := make([]T, 0, len(list))
	for _, item := range list {
		copied = append(copied, copyOne(item))
	}
	return copied
}

// copyList begins with nil, so that also of an empty list nothing of its memory is kept.
func copyList[T any](list []T) []T {
	return append([]T(nil), list...)
}
