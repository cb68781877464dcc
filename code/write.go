package code

import (
	"planish/api"
	"planish/wire"
)

// writer has what is written so far.
type writer struct{ b []byte }

func (w *writer) module(m api.Module) {
	writeList(w, m.Externs, (*writer).extern)
	writeList(w, m.Globals, (*writer).global)
	writeList(w, m.Tables, (*writer).table)
	writeList(w, m.Funcs, (*writer).function)
}

func (w *writer) extern(e api.Extern) {
	w.name(e.Name)
	w.number(e.Result)
	writeList(w, e.Params, (*writer).number)
}

func (w *writer) global(g api.Global) {
	w.name(g.Name)
	writeList(w, g.Cells, (*writer).wide)
}

func (w *writer) table(t api.Table) {
	w.name(t.Name)
	writeList(w, t.Funcs, (*writer).number)
}

func (w *writer) function(f api.Func) {
	w.name(f.Name)
	w.truth(f.Out)
	w.number(f.Result)
	writeList(w, f.Params, (*writer).number)
	writeList(w, f.Blocks, (*writer).block)
}

func (w *writer) block(b api.Block) { writeList(w, b.Ins, (*writer).ins) }

func (w *writer) ins(ins api.Ins) {
	w.number(ins.Op)
	w.number(ins.Type)
	w.number(ins.To)
	w.number(ins.Sym)
	w.wide(ins.Num)
	writeList(w, ins.Args, (*writer).number)
	writeList(w, ins.Into, (*writer).number)
}

func writeList[T any](w *writer, list []T, write func(*writer, T)) {
	w.number(len(list))
	for _, item := range list {
		write(w, item)
	}
}

func (w *writer) truth(is bool) {
	if is {
		w.number(1)
	} else {
		w.number(0)
	}
}

func (w *writer) number(n int) { w.wide(int64(n)) }

// wide puts n into bytes of its own: behind all that is written wire would copy that each time.
func (w *writer) wide(n int64) { w.b = append(w.b, wire.Put(nil, n)...) }

func (w *writer) name(s string) { w.b = append(w.b, wire.PutText(nil, s)...) }
