package text

import (
	"planish/api"
	"planish/lex"
	"planish/wf"
)

// Parse gives the module that s is, or where and why it is none (P8.2).
func Parse(s string) (m api.Module, at int, e api.Errno) {
	lines, at, e := lex.Lines(s)
	if e != api.OK {
		return api.Module{}, at, e
	}
	r := newReader(lines)
	r.read(lines)
	// A name that is none stands behind all words that can't stand, wherever these are.
	switch {
	case r.wrong != nowhere:
		return api.Module{}, r.wrong, api.ErrForm
	case r.missing != nowhere:
		return api.Module{}, r.missing, api.ErrSym
	}
	if e := wf.Check(r.m); e != api.OK {
		return api.Module{}, 0, e
	}
	return r.m, 0, api.OK
}

// read reads the lines into the module, up to the first one in which a word can't stand.
func (r *reader) read(all []lex.Line) {
lines:
	for _, line := range all {
		r.words, r.next = line.Words, 0
		switch first := r.word(); {
		case !r.mayBegin(first.Text):
			r.fault(first.At)
			break lines
		case first.Text == externWord:
			r.m.Externs = append(r.m.Externs, r.extern())
		case first.Text == globalWord:
			r.m.Globals = append(r.m.Globals, r.global())
		case first.Text == tableWord:
			r.m.Tables = append(r.m.Tables, r.table())
		case first.Text == funcWord, first.Text == outWord:
			r.m.Funcs = append(r.m.Funcs, r.function(first.Text == outWord))
		default:
			r.part(first)
		}
		if !r.isDone() {
			break lines
		}
	}
}

// mayBegin tells whether a line that begins so may stand behind those that are read.
// It lets pass a word within a block that begins nothing: the Ins that it is then no WORD of tells it, at the same place.
func (r *reader) mayBegin(word string) bool {
	switch word {
	case externWord, globalWord, tableWord:
		return len(r.m.Funcs) == 0
	case funcWord, outWord:
		return true
	}
	if len(r.m.Funcs) == 0 {
		return false
	}
	return word[0] == blockMark || len(r.lastFunc().Blocks) > 0
}

func (r *reader) lastFunc() *api.Func { return &r.m.Funcs[len(r.m.Funcs)-1] }

func (r *reader) extern() api.Extern {
	name := r.word().Text
	result := r.typeFrom(0)
	return api.Extern{Name: name, Result: result, Params: r.types()}
}

func (r *reader) global() api.Global {
	g := api.Global{Name: r.word().Text}
	for r.isMore() {
		g.Cells = append(g.Cells, r.number())
	}
	return g
}

func (r *reader) table() api.Table {
	t := api.Table{Name: r.word().Text}
	for r.isMore() {
		t.Funcs = append(t.Funcs, r.entry())
	}
	return t
}

func (r *reader) entry() int {
	w := r.word()
	if w.Text == noFuncWord {
		return noFunc
	}
	return r.find(w, r.funcs)
}

// function reads a function's own line; its blocks are in those behind it.
func (r *reader) function(out bool) api.Func {
	name := r.word().Text
	result := r.typeFrom(0)
	return api.Func{Name: name, Out: out, Result: result, Params: r.types()}
}

// part reads a line of the last function, a block's or an Ins'.
func (r *reader) part(first lex.Word) {
	f := r.lastFunc()
	if first.Text[0] == blockMark {
		if n, is := lex.Ref(first.Text, blockMark); !is || n != len(f.Blocks) {
			r.fault(first.At)
		}
		f.Blocks = append(f.Blocks, api.Block{})
		return
	}
	b := &f.Blocks[len(f.Blocks)-1]
	b.Ins = append(b.Ins, r.ins(first))
}

func (r *reader) ins(first lex.Word) api.Ins {
	var ins api.Ins
	what := first
	if first.Text[0] == valueMark {
		ins.To = r.refOf(first, valueMark)
		ins.Type = r.typeFrom(api.I64)
		if w := r.word(); w.Text != givesWord {
			r.fault(w.At)
		}
		what = r.word()
	}
	ins.Op = r.op(what)
	args, into, hasSym, hasNum := wf.Mark(ins.Op)
	if hasSym {
		ins.Sym = r.find(r.word(), r.named(ins.Op))
	}
	if hasNum {
		ins.Num = r.number()
	}
	if ins.Op == api.Phi {
		ins.Args, ins.Into = r.entries()
		return ins
	}
	ins.Args = r.refs(valueMark, args)
	ins.Into = r.refs(blockMark, into)
	return ins
}

func (r *reader) entries() (args, into []int) {
	for r.isMore() {
		into = append(into, r.refOf(r.word(), blockMark))
		args = append(args, r.refOf(r.word(), valueMark))
	}
	return args, into
}
