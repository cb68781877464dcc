package code

import (
	"planish/api"
	"planish/wire"
)

// reader goes through the bytes of a module, from the place at on. Behind a fault it reads 0s and
// empty things alone, so that it is enough to ask for the fault at the end.
type reader struct {
	b     []byte
	at    int
	fault bool
}

func (r *reader) module() api.Module {
	var m api.Module
	m.Externs = readList(r, (*reader).extern)
	m.Globals = readList(r, (*reader).global)
	m.Tables = readList(r, (*reader).table)
	m.Funcs = readList(r, (*reader).function)
	return m
}

func (r *reader) extern() api.Extern {
	var e api.Extern
	e.Name = r.name()
	e.Result = r.number()
	e.Params = readList(r, (*reader).number)
	return e
}

func (r *reader) global() api.Global {
	var g api.Global
	g.Name = r.name()
	g.Cells = readList(r, (*reader).wide)
	return g
}

func (r *reader) table() api.Table {
	var t api.Table
	t.Name = r.name()
	t.Funcs = readList(r, (*reader).number)
	return t
}

func (r *reader) function() api.Func {
	var f api.Func
	f.Name = r.name()
	f.Out = r.truth()
	f.Result = r.number()
	f.Params = readList(r, (*reader).number)
	f.Blocks = readList(r, (*reader).block)
	return f
}

func (r *reader) block() api.Block { return api.Block{Ins: readList(r, (*reader).ins)} }

func (r *reader) ins() api.Ins {
	var ins api.Ins
	ins.Op = r.number()
	ins.Type = r.number()
	ins.To = r.number()
	ins.Sym = r.number()
	ins.Num = r.wide()
	ins.Args = readList(r, (*reader).number)
	ins.Into = readList(r, (*reader).number)
	return ins
}

func readList[T any](r *reader, read func(*reader) T) []T {
	count := r.number()
	// Each item has a byte at least: a count above what is left is told here, ahead of the items.
	if count < 0 || count > len(r.b)-r.at {
		r.fault = true
	}
	// The list grows with what is read: room for what is only told could be far too much.
	var list []T
	for len(list) < count && !r.fault {
		list = append(list, read(r))
	}
	return list
}

func (r *reader) truth() bool {
	n := r.number()
	if n != 0 && n != 1 {
		r.fault = true
	}
	return n == 1
}

// number gives the next number, which has to fit an int32.
func (r *reader) number() int {
	n := r.wide()
	if n != int64(int32(n)) {
		r.fault = true
		return 0
	}
	return int(n)
}

func (r *reader) wide() int64 {
	n, next, e := wire.Get(r.b, r.at)
	if r.fault || e != api.OK {
		r.fault = true
		return 0
	}
	r.at = next
	return n
}

func (r *reader) name() string {
	s, next, e := wire.GetText(r.b, r.at, api.MaxName)
	if r.fault || e != api.OK {
		r.fault = true
		return ""
	}
	r.at = next
	return s
}
