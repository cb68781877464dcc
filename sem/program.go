package sem

import (
	"planish/api"
	"planish/mem"
)

// program is a module laid out to be run, in memory of its own: what becomes of the module does not change it.
type program struct {
	// externs have no Params here: wf.Check has held the Args against them.
	externs []api.Extern
	// globals are pointers to the beginning of each.
	globals []value
	tables  [][]int
	funcs   []function
}

// function is a function laid out to be run.
type function struct {
	params []int
	result int
	// types has each value's type at its number.
	types  []int
	blocks []block
}

// block is a block; its Phis are kept apart, as they are done by the jump to it.
type block struct{ phis, rest []api.Ins }

// programOf lays out a module that may be, and makes its globals.
func programOf(m api.Module) program {
	var p program
	for _, e := range m.Externs {
		p.externs = append(p.externs, api.Extern{Name: e.Name, Result: e.Result})
	}
	for _, g := range m.Globals {
		p.globals = append(p.globals, object(g.Cells))
	}
	for _, t := range m.Tables {
		p.tables = append(p.tables, copyList(t.Funcs))
	}
	for _, f := range m.Funcs {
		p.funcs = append(p.funcs, functionOf(f))
	}
	return p
}

func functionOf(f api.Func) function {
	fn := function{params: copyList(f.Params), result: f.Result}
	// There is no value 0, but so each one's number is its place.
	fn.types = append(append(fn.types, 0), f.Params...)
	for _, b := range f.Blocks {
		fn.blocks = append(fn.blocks, blockOf(b))
		for _, i := range b.Ins {
			// wf.Check has seen to it that each To is the next number.
			if i.Type != 0 {
				fn.types = append(fn.types, i.Type)
			}
		}
	}
	return fn
}

func blockOf(b api.Block) block {
	all := copyList(b.Ins)
	phis := 0
	for k := range all {
		all[k].Args = copyList(all[k].Args)
		all[k].Into = copyList(all[k].Into)
		if all[k].Op == api.Phi {
			phis++
		}
	}
	return block{phis: all[:phis], rest: all[phis:]}
}

// frame gives a frame at the beginning of a function, whose parameters are still to be given.
func (p *program) frame(fn int) frame {
	f := &p.funcs[fn]
	return frame{fn: f, values: make([]value, len(f.types))}
}

// fits tells whether a Via with these Args and this Type may call a function, if the Args are values of caller; the
// first one is the function itself.
func (f *function) fits(via *api.Ins, caller *function) bool {
	args := via.Args[1:]
	if len(args) != len(f.params) || via.Type != f.result {
		return false
	}
	for k, v := range args {
		if caller.types[v] != f.params[k] {
			return false
		}
	}
	return true
}

// object makes an object, and gives a pointer to its beginning. Each object has a Mem of its own, in which it has the
// number 0: so one that no value points to any more takes no memory, however many a run makes.
func object(cells []int64) value {
	in := mem.New()
	in.Make(cells)
	return value{in: in}
}

// copyList begins with nil, so that also of an empty list nothing of its memory is kept.
func copyList[T any](list []T) []T {
	return append([]T(nil), list...)
}
