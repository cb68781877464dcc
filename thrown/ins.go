package thrown

import "planish/api"

// ins puts an Ins, and what it takes ahead of it. Most are such that a run goes on behind them.
func (w *maker) ins(b int) {
	switch w.d.Below(20) {
	case 0, 1, 2, 3:
		w.operator(b)
	case 4:
		w.put(b, api.Ins{Op: w.d.oneOf(api.Eq, api.Lt), Type: api.I1, Args: w.pick(b, api.I64, api.I64)})
	case 5:
		w.put(b, api.Ins{Op: api.Not, Type: api.I1, Args: w.pick(b, api.I1)})
	case 6:
		typ := 1 + w.d.Below(4)
		w.put(b, api.Ins{Op: api.Sel, Type: typ, Args: w.pick(b, api.I1, typ, typ)})
	case 7:
		w.fresh(b, 1+w.d.Below(4))
	case 8, 9:
		w.at(b)
	case 10, 11:
		w.put(b, api.Ins{Op: api.Load, Type: api.I64, Args: w.pick(b, api.Ptr)})
	case 12, 13:
		w.put(b, api.Ins{Op: api.Store, Args: w.pick(b, api.Ptr, api.I64)})
	case 14, 15:
		fn := w.callee()
		f := w.m.Funcs[fn]
		w.put(b, api.Ins{Op: api.Call, Type: f.Result, Sym: fn, Args: w.pick(b, f.Params...)})
	case 16:
		w.tab(b)
	case 17:
		w.via(b)
	default:
		w.ext(b)
	}
}

func (w *maker) operator(b int) {
	op := w.d.oneOf(api.Add, api.Sub, api.Mul, api.Div, api.Rem, api.And, api.Or, api.Xor, api.Shl, api.Shr)
	args := w.pick(b, api.I64, api.I64)
	if (op == api.Div || op == api.Rem) && w.d.Below(4) > 0 {
		args[1] = w.number(b, int64(w.d.oneOf(-1, 2, 3, 10)))
	}
	w.put(b, api.Ins{Op: op, Type: api.I64, Args: args})
}

func (w *maker) at(b int) {
	args := w.pick(b, api.Ptr, api.I64)
	if w.d.Below(5) > 0 {
		args[1] = w.number(b, int64(w.d.oneOf(-1, 0, 0, 1, 1, 2)))
	}
	w.put(b, api.Ins{Op: api.At, Type: api.Ptr, Args: args})
}

// callee gives a function to be called: most stand behind the one that calls, so that a run comes back.
func (w *maker) callee() int {
	behind := len(w.m.Funcs) - w.fn - 1
	if behind > 0 && w.d.Below(6) > 0 {
		return w.fn + 1 + w.d.Below(behind)
	}
	return w.d.Below(len(w.m.Funcs))
}

func (w *maker) tab(b int) {
	if len(w.m.Tables) == 0 {
		return
	}
	sym := w.d.Below(len(w.m.Tables))
	args := w.pick(b, api.I64)
	if w.d.Below(4) > 0 {
		args[0] = w.number(b, int64(w.d.Below(len(w.m.Tables[sym].Funcs))))
	}
	w.put(b, api.Ins{Op: api.Tab, Type: api.Fun, Sym: sym, Args: args})
}

// via calls as if it were some function of the module; that it is one of that signature is not sure.
func (w *maker) via(b int) {
	fn := w.callee()
	f := w.m.Funcs[fn]
	args := w.pick(b, append([]int{api.Fun}, f.Params...)...)
	if w.d.Below(3) > 0 {
		args[0] = w.put(b, api.Ins{Op: api.FunOf, Type: api.Fun, Sym: fn})
	}
	w.put(b, api.Ins{Op: api.Via, Type: f.Result, Args: args})
}

func (w *maker) ext(b int) {
	if len(w.m.Externs) == 0 {
		return
	}
	sym := w.d.Below(len(w.m.Externs))
	e := w.m.Externs[sym]
	w.put(b, api.Ins{Op: api.Ext, Type: e.Result, Sym: sym, Args: w.pick(b, e.Params...)})
}
