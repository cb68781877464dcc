package wf

import (
	"slices"

	"planish/api"
	"planish/flow"
)

// flowFault tells whether blocks of m do not fit together (P6.3, 5).
func flowFault(m api.Module) bool { return slices.ContainsFunc(m.Funcs, funcFlowFault) }

func funcFlowFault(f api.Func) bool {
	for _, b := range f.Blocks {
		if rowFault(b) || leadFault(f, b) {
			return true
		}
	}
	return slices.Contains(flow.Reach(f), false) || entryFault(f)
}

// rowFault tells whether b has not just its Phis first, and just one end, which is last.
func rowFault(b api.Block) bool {
	for i, ins := range b.Ins {
		isLast := i == len(b.Ins)-1
		if Ends(ins.Op) != isLast || ins.Op == api.Phi && i > 0 && b.Ins[i-1].Op != api.Phi {
			return true
		}
	}
	return len(b.Ins) == 0
}

// leadFault tells whether b's end leads to what is no block, to block 0, or twice to one.
func leadFault(f api.Func, b api.Block) bool {
	end := b.Ins[len(b.Ins)-1]
	for _, to := range end.Into {
		if to < 1 || to >= len(f.Blocks) {
			return true
		}
	}
	return end.Op == api.Br && end.Into[0] == end.Into[1]
}

// entryFault tells whether a Phi has other entries than one for each block that leads to it, rising.
// Of a Phi in block 0 that holds as well: nothing leads there, and it has an entry.
func entryFault(f api.Func) bool {
	for b, prev := range flow.Prev(f) {
		for _, ins := range f.Blocks[b].Ins {
			if ins.Op == api.Phi && !slices.Equal(ins.Into, prev) {
				return true
			}
		}
	}
	return false
}
