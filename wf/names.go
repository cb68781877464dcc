package wf

import (
	"slices"

	"planish/api"
)

// nameFault tells whether a name of m is none, or stands twice (P6.3, 3).
func nameFault(m api.Module) bool {
	seen := make(map[string]struct{})
	for _, name := range namesOf(m) {
		if _, twice := seen[name]; twice || !Name(name) {
			return true
		}
		seen[name] = struct{}{}
	}
	return false
}

func namesOf(m api.Module) []string {
	var names []string
	for _, e := range m.Externs {
		names = append(names, e.Name)
	}
	for _, g := range m.Globals {
		names = append(names, g.Name)
	}
	for _, t := range m.Tables {
		names = append(names, t.Name)
	}
	for _, f := range m.Funcs {
		names = append(names, f.Name)
	}
	return names
}

// symFault tells whether a Sym or a table's entry of m names what is not there (P6.3, 4).
func symFault(m api.Module) bool {
	isNoEntry := func(entry int) bool { return entry != -1 && !isPlace(entry, len(m.Funcs)) }
	for _, t := range m.Tables {
		if slices.ContainsFunc(t.Funcs, isNoEntry) {
			return true
		}
	}
	isBad := func(ins api.Ins) bool { return insSymFault(m, ins) }
	for _, f := range m.Funcs {
		for _, b := range f.Blocks {
			if slices.ContainsFunc(b.Ins, isBad) {
				return true
			}
		}
	}
	return false
}

func insSymFault(m api.Module, ins api.Ins) bool {
	switch ins.Op {
	case api.FunOf, api.Call:
		return !isPlace(ins.Sym, len(m.Funcs))
	case api.GloOf:
		return !isPlace(ins.Sym, len(m.Globals))
	case api.Ext:
		return !isPlace(ins.Sym, len(m.Externs))
	case api.Tab:
		return !isPlace(ins.Sym, len(m.Tables))
	}
	return false
}

func isPlace(n, count int) bool { return n >= 0 && n < count }
