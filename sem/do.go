package sem

import (
	"planish/api"
	"planish/num"
)

// do does an Ins that costs, in the frame that is the last one (P11.2).
func (x *Machine) do(f *frame, i *api.Ins) {
	switch i.Op {
	case api.Store:
		to := f.arg(i, 0)
		if !to.in.Store(0, to.n, f.arg(i, 1).n) {
			x.trap(api.TrapMem)
		}
	case api.Call:
		x.call(f, i.Sym, i.Args)
	case api.Via:
		x.via(f, i)
	case api.Ext:
		x.ext(f, i)
	case api.Jump:
		x.taken = f.enter(i.Into[0], x.taken)
	case api.Br:
		to := i.Into[1]
		if f.arg(i, 0).n == 1 {
			to = i.Into[0]
		}
		x.taken = f.enter(to, x.taken)
	case api.Ret:
		x.ret(f, i)
	case api.Stop:
		x.trap(api.TrapStop)
	default:
		v, trap := x.reckon(f, i)
		if trap != 0 {
			x.trap(trap)
			return
		}
		f.give(i, v)
	}
}

// reckon gives what an Ins gives that does nothing else, or the trap that it ends in.
func (x *Machine) reckon(f *frame, i *api.Ins) (value, int) {
	switch i.Op {
	case api.Sel:
		if f.arg(i, 0).n == 1 {
			return f.arg(i, 1), 0
		}
		return f.arg(i, 2), 0
	case api.Room:
		var noughts [api.MaxCells]int64
		return object(noughts[:i.Num]), 0
	case api.At:
		p := f.arg(i, 0)
		p.n, _ = num.Do(api.Add, p.n, f.arg(i, 1).n)
		return p, 0
	case api.Load:
		p := f.arg(i, 0)
		n, is := p.in.Load(0, p.n)
		if !is {
			return value{}, api.TrapMem
		}
		return value{n: n}, 0
	case api.Tab:
		entries, at := x.program.tables[i.Sym], f.arg(i, 0).n
		if at < 0 || at >= int64(len(entries)) || entries[at] < 0 {
			return value{}, api.TrapTab
		}
		return value{n: int64(entries[at])}, 0
	case api.Not:
		n, trap := num.Do(api.Not, f.arg(i, 0).n, 0)
		return value{n: n}, trap
	}
	n, trap := num.Do(i.Op, f.arg(i, 0).n, f.arg(i, 1).n)
	return value{n: n}, trap
}

// call opens a frame of a function, whose parameters are values of the frame f.
func (x *Machine) call(f *frame, fn int, args []int) {
	if len(x.frames) >= api.MaxDepth {
		x.trap(api.TrapDepth)
		return
	}
	called := x.program.frame(fn)
	for k, v := range args {
		called.values[1+k] = f.values[v]
	}
	x.frames = append(x.frames, called)
}

// via calls the function that an Ins takes first.
func (x *Machine) via(f *frame, i *api.Ins) {
	fn := int(f.arg(i, 0).n)
	if !x.program.funcs[fn].fits(i, f.fn) {
		x.trap(api.TrapSig)
		return
	}
	x.call(f, fn, i.Args[1:])
}

// ext calls an extern: what it answers stands in the script.
func (x *Machine) ext(f *frame, i *api.Ins) {
	e := x.program.externs[i.Sym]
	event := api.Event{Name: e.Name}
	for _, v := range i.Args {
		event.Args = append(event.Args, f.values[v].n)
	}
	if e.Result != 0 && len(x.script) > 0 {
		event.Answer, x.script = x.script[0], x.script[1:]
	}
	if e.Result == api.I1 {
		event.Answer &= 1
	}
	x.told.Trace = append(x.told.Trace, event)
	f.give(i, value{n: event.Answer})
}

// ret closes the frame f: the one that called goes on, or the run has come to its end.
func (x *Machine) ret(f *frame, i *api.Ins) {
	var v value
	if len(i.Args) > 0 {
		v = f.arg(i, 0)
	}
	// What the frame's values point to is not to be kept with it.
	*f = frame{}
	x.frames = x.frames[:len(x.frames)-1]
	if len(x.frames) == 0 {
		x.end(api.Returned, 0, v.n)
		return
	}
	caller := &x.frames[len(x.frames)-1]
	caller.give(caller.last(), v)
}

func (x *Machine) trap(trap int) { x.end(api.Trapped, trap, 0) }

// end leaves nothing but what is told of the run.
func (x *Machine) end(kind, trap int, v int64) {
	told := x.told
	told.Kind, told.Trap, told.Value = kind, trap, v
	*x = Machine{told: told}
}
