package sem

import (
	"fmt"
	"maps"
	"slices"
	"testing"

	"planish/api"
	"planish/thrown"
)

// teller does P11.2 in another way than a Machine: each call of the module is one of Go's, an object is a list, and a
// value is an int64, a bool, a pointer or a fun, so that it shows its type itself. What ends a run, or leaves it where
// its fuel ends, is a panic.
type teller struct {
	m       api.Module
	script  []int64
	fuel    int
	run     api.Run
	depth   int
	globals []*[]int64
}

type pointer struct {
	object *[]int64
	offset int64
}

type fun int

// over is told by panic.
type over struct{}

// typed makes a number what it is in that type.
func typed(n int64, typ int) any {
	if typ == api.I1 {
		return n != 0
	}
	return n
}

// number makes it one again.
func number(v any) int64 {
	switch v {
	case true:
		return 1
	case false:
		return 0
	}
	return v.(int64)
}

func typeOf(v any) int {
	switch v.(type) {
	case int64:
		return api.I64
	case bool:
		return api.I1
	case pointer:
		return api.Ptr
	}
	return api.Fun
}

// tellInWords tells how a run stands, and how many frames it has.
func tellInWords(r running, fuel int) (run api.Run, depth int) {
	w := &teller{m: r.m, script: slices.Clone(r.script), fuel: fuel, run: api.Run{Kind: api.Runs}}
	defer func() {
		switch thing := recover(); thing {
		case nil, over{}:
			run, depth = w.run, w.depth
			if run.Kind != api.Runs {
				depth = 0
			}
		default:
			panic(thing)
		}
	}()
	for _, g := range r.m.Globals {
		object := slices.Clone(g.Cells)
		w.globals = append(w.globals, &object)
	}
	fn := slices.IndexFunc(r.m.Funcs, func(f api.Func) bool { return f.Name == r.name })
	var args []any
	for k, n := range r.args {
		args = append(args, typed(n, r.m.Funcs[fn].Params[k]))
	}
	v := w.call(fn, args)
	w.run.Kind = api.Returned
	if v != nil {
		w.run.Value = number(v)
	}
	return
}

func (w *teller) trap(trap int) {
	w.run.Kind, w.run.Trap = api.Trapped, trap
	panic(over{})
}

// step is done ahead of each Ins that costs.
func (w *teller) step() {
	if w.run.Steps == w.fuel {
		panic(over{})
	}
	w.run.Steps++
}

// call gives what a function returns: nil, if that is nothing.
func (w *teller) call(fn int, args []any) any {
	if w.depth == api.MaxDepth {
		w.trap(api.TrapDepth)
	}
	w.depth++
	f, values := w.m.Funcs[fn], map[int]any{}
	for k, v := range args {
		values[k+1] = v
	}
	for from, at := -1, 0; ; {
		maps.Copy(values, phisInWords(f.Blocks[at], from, values))
		for _, i := range f.Blocks[at].Ins {
			var taken []any
			if i.Op != api.Phi {
				for _, v := range i.Args {
					taken = append(taken, values[v])
				}
			}
			switch i.Op {
			case api.Phi:
			case api.Num, api.FunOf, api.GloOf:
				values[i.To] = w.stands(i)
			case api.Jump:
				w.step()
				from, at = at, i.Into[0]
			case api.Br:
				w.step()
				from, at = at, i.Into[1-number(taken[0])]
			case api.Ret:
				w.step()
				w.depth--
				return append(taken, nil)[0]
			default:
				w.step()
				values[i.To] = w.gives(i, taken)
			}
		}
	}
}

func phisInWords(b api.Block, from int, values map[int]any) map[int]any {
	given := map[int]any{}
	for _, i := range b.Ins {
		for k, into := range i.Into {
			if i.Op == api.Phi && into == from {
				given[i.To] = values[i.Args[k]]
			}
		}
	}
	return given
}

func (w *teller) stands(i api.Ins) any {
	switch i.Op {
	case api.FunOf:
		return fun(i.Sym)
	case api.GloOf:
		return pointer{w.globals[i.Sym], 0}
	}
	return typed(i.Num, i.Type)
}

func (w *teller) gives(i api.Ins, taken []any) any {
	switch i.Op {
	case api.Sel:
		return taken[2-number(taken[0])]
	case api.Room:
		object := make([]int64, i.Num)
		return pointer{&object, 0}
	case api.At:
		p := taken[0].(pointer)
		return pointer{p.object, p.offset + number(taken[1])}
	case api.Load:
		return *w.cell(taken[0].(pointer))
	case api.Store:
		*w.cell(taken[0].(pointer)) = number(taken[1])
		return nil
	case api.Tab:
		for k, fn := range w.m.Tables[i.Sym].Funcs {
			if int64(k) == number(taken[0]) && fn != -1 {
				return fun(fn)
			}
		}
		w.trap(api.TrapTab)
	case api.Call:
		return w.call(i.Sym, taken)
	case api.Via:
		return w.via(int(taken[0].(fun)), taken[1:], i.Type)
	case api.Ext:
		return w.ext(w.m.Externs[i.Sym], taken)
	case api.Not:
		return !taken[0].(bool)
	case api.Stop:
		w.trap(api.TrapStop)
	}
	v, is := inNumbers(i.Op, number(taken[0]), number(taken[1]))
	if !is {
		w.trap(api.TrapDiv)
	}
	return typed(v, i.Type)
}

func (w *teller) cell(p pointer) *int64 {
	for k := range *p.object {
		if int64(k) == p.offset {
			return &(*p.object)[k]
		}
	}
	w.trap(api.TrapMem)
	return nil
}

func (w *teller) via(fn int, taken []any, typ int) any {
	var types []int
	for _, v := range taken {
		types = append(types, typeOf(v))
	}
	f := w.m.Funcs[fn]
	if f.Result != typ || fmt.Sprint(types) != fmt.Sprint(f.Params) {
		w.trap(api.TrapSig)
	}
	return w.call(fn, taken)
}

func (w *teller) ext(e api.Extern, taken []any) any {
	event := api.Event{Name: e.Name}
	for _, v := range taken {
		event.Args = append(event.Args, number(v))
	}
	if e.Result == 0 {
		w.run.Trace = append(w.run.Trace, event)
		return nil
	}
	if len(w.script) > 0 {
		event.Answer = w.script[0]
		w.script = w.script[1:]
	}
	if e.Result == api.I1 {
		event.Answer = number(event.Answer%2 != 0)
	}
	w.run.Trace = append(w.run.Trace, event)
	return typed(event.Answer, e.Result)
}

// wantInWords holds a machine behind each of so many steps, and Run, against what is told in words.
func wantInWords(t *testing.T, what string, r running, steps int) api.Run {
	t.Helper()
	x := r.started(t)
	for fuel := range steps {
		want, depth := tellInWords(r, fuel)
		if told(x.Told()) != told(want) || x.Depth() != depth {
			t.Fatalf("P11.2: %s, behind %d Steps: %s, Depth %d, not %s, %d", what, fuel, short(told(x.Told())), x.Depth(), short(told(want)), depth)
		}
		if want.Kind != api.Runs {
			wantEnded(t, x, told(want))
			break
		}
		x.Step()
	}
	want, _ := tellInWords(r, 2000)
	run := r.with(t, 2000)
	if told(run) != told(want) {
		t.Fatalf("P11.2: %s, with fuel 2000: %s, not %s", what, short(told(run)), short(told(want)))
	}
	return run
}

// Modules that are thrown, each of their Out functions with args and scripts that are thrown.
func TestInWords(t *testing.T) {
	ends := map[string]int{}
	for seed := range 2500 {
		d := thrown.Dice(seed)
		m := d.Module()
		for _, f := range m.Funcs {
			if !f.Out {
				continue
			}
			for round := range 2 {
				r := running{m, f.Name, d.Args(f), d.Numbers(d.Below(8))}
				run := wantInWords(t, fmt.Sprintf("module %d, %s %v, round %d", seed, f.Name, r.args, round), r, 40)
				ends[told(api.Run{Kind: run.Kind, Trap: run.Trap})]++
			}
		}
	}
	for _, end := range []string{"returned in 0", "runs in 0", "trapped by 1 in 0", "trapped by 2 in 0", "trapped by 3 in 0", "trapped by 4 in 0", "trapped by 5 in 0", "trapped by 6 in 0"} {
		if ends[end] < 20 {
			t.Errorf("the test has run too few modules of which it is told %s: %d", end, ends[end])
		}
	}
}

// The modules of the tables, at edges that thrown ones seldom come to.
func TestKeptInWords(t *testing.T) {
	m := parsed(t, keptText)
	for _, a := range edgeNumbers() {
		for bit := range int64(2) {
			for _, script := range [][]int64{nil, {a}, {a, 1}, {5, a, 7}} {
				wantInWords(t, "the kept one", running{m, "f", []int64{a, bit}, script}, 40)
			}
		}
	}
}
