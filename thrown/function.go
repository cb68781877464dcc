package thrown

import (
	"planish/api"
	"planish/dom"
	"planish/flow"
	"planish/ir"
)

// A function has so few of these that it is never above api.MaxIns, whatever is put ahead of its Ins to be taken.
const (
	maxBlocks = 6
	maxIns    = 4
	maxPhis   = 2
)

// maker makes a function.
type maker struct {
	d *Dice
	// m is the module, of whose functions only the signatures are asked.
	m  api.Module
	fn int
	// f has of its blocks' Ins the ends alone.
	f    api.Func
	over []int
	// rows are, by block, what stands ahead of its end.
	rows [][]api.Ins
	// given are, by block, the values that it gives.
	given [][]int
	// types are the types by value.
	types []int
}

// function gives the function fn of m, with its blocks.
func function(d *Dice, m api.Module, fn int) api.Func {
	w := maker{d: d, m: m, fn: fn, f: m.Funcs[fn]}
	w.f.Blocks = nil
	for range 1 + d.Below(maxBlocks) {
		w.f.Blocks = append(w.f.Blocks, api.Block{})
	}
	for b := range w.f.Blocks {
		w.f.Blocks[b].Ins = []api.Ins{w.end(b)}
	}
	w.f = flow.Tidy(w.f)
	w.over = dom.Over(w.f)
	w.rows = make([][]api.Ins, len(w.f.Blocks))
	w.given = make([][]int, len(w.f.Blocks))
	w.types = append([]int{0}, w.f.Params...)
	prev := flow.Prev(w.f)
	// In this order what is over a block is there ahead of it.
	for _, b := range flow.Order(w.f) {
		w.phis(b, prev[b])
		for range d.Below(maxIns + 1) {
			w.ins(b)
		}
	}
	w.takeEnds()
	w.takePhis()
	for b, row := range w.rows {
		w.f.Blocks[b].Ins = append(row, w.f.Blocks[b].Ins...)
	}
	return ir.Neat(w.f)
}

// end gives an end of the block b that takes nothing yet; most go to a block behind it.
func (w *maker) end(b int) api.Ins {
	count := len(w.f.Blocks)
	to := 0
	if b+1 < count {
		to = b + 1 + w.d.Below(count-b-1)
	}
	if count > 1 && (to == 0 && w.d.Below(3) == 0 || w.d.Below(8) == 0) {
		to = 1 + w.d.Below(count-1)
	}
	other := 0
	if count > 2 {
		other = 1 + w.d.Below(count-1)
	}
	switch {
	case w.d.Below(24) == 0:
		return api.Ins{Op: api.Stop}
	case to == 0 || w.d.Below(8) == 0:
		return api.Ins{Op: api.Ret}
	case other == 0 || other == to || w.d.Below(4) == 0:
		return api.Ins{Op: api.Jump, Into: []int{to}}
	case w.d.Below(2) == 0:
		return api.Ins{Op: api.Br, Into: []int{other, to}}
	}
	return api.Ins{Op: api.Br, Into: []int{to, other}}
}

// phis begins a block that others go to with some Phis that take nothing yet.
func (w *maker) phis(b int, prev []int) {
	if len(prev) == 0 {
		return
	}
	for range w.d.Below(maxPhis + 1) {
		w.put(b, api.Ins{Op: api.Phi, Type: w.d.oneOf(api.I64, api.I64, api.I1, api.Ptr, api.Fun), Into: append([]int(nil), prev...)})
	}
}

// takeEnds gives the ends what they take.
func (w *maker) takeEnds() {
	for b := range w.f.Blocks {
		end := &w.f.Blocks[b].Ins[0]
		if end.Op == api.Br {
			end.Args = w.pick(b, api.I1)
		}
		if end.Op == api.Ret && w.f.Result != 0 {
			end.Args = w.pick(b, w.f.Result)
		}
	}
}

// takePhis gives the Phis what they take: anything that is there at the end of the block that an entry comes from.
func (w *maker) takePhis() {
	for b := range w.rows {
		for k := 0; k < len(w.rows[b]) && w.rows[b][k].Op == api.Phi; k++ {
			var args []int
			for _, from := range w.rows[b][k].Into {
				args = append(args, w.pick(from, w.rows[b][k].Type)...)
			}
			w.rows[b][k].Args = args
		}
	}
}

// put puts an Ins at the end of a block's row: the value that it gives, if it has a Type.
func (w *maker) put(b int, ins api.Ins) int {
	if ins.Type != 0 {
		ins.To = len(w.types)
		w.types = append(w.types, ins.Type)
		w.given[b] = append(w.given[b], ins.To)
	}
	w.rows[b] = append(w.rows[b], ins)
	return ins.To
}

// pick gives for each of these types a value that is there at the end of a block's row; some are put there for it.
func (w *maker) pick(b int, types ...int) []int {
	var args []int
	for _, typ := range types {
		var there []int
		for v := 1; v <= len(w.f.Params); v++ {
			if w.types[v] == typ {
				there = append(there, v)
			}
		}
		for o := b; o >= 0; o = w.over[o] {
			for _, v := range w.given[o] {
				if w.types[v] == typ {
					there = append(there, v)
				}
			}
		}
		if len(there) == 0 || w.d.Below(6) == 0 {
			there = []int{w.fresh(b, typ)}
		}
		args = append(args, w.d.oneOf(there...))
	}
	return args
}

// fresh puts an Ins that takes nothing and gives a value of that type.
func (w *maker) fresh(b, typ int) int {
	switch {
	case typ == api.I64:
		return w.number(b, w.d.Number())
	case typ == api.I1:
		return w.put(b, api.Ins{Op: api.Num, Type: typ, Num: int64(w.d.Below(2))})
	case typ == api.Fun:
		return w.put(b, api.Ins{Op: api.FunOf, Type: typ, Sym: w.d.Below(len(w.m.Funcs))})
	case len(w.m.Globals) > 0 && w.d.Below(2) == 0:
		return w.put(b, api.Ins{Op: api.GloOf, Type: typ, Sym: w.d.Below(len(w.m.Globals))})
	}
	return w.put(b, api.Ins{Op: api.Room, Type: typ, Num: int64(1 + w.d.Below(4))})
}

func (w *maker) number(b int, n int64) int {
	return w.put(b, api.Ins{Op: api.Num, Type: api.I64, Num: n})
}
