package code

import (
	"bytes"

	"planish/api"
	"planish/wf"
)

// misfit is told by panic where bytes are not laid out as they should be.
type misfit struct{}

// inWords works P9.2 out in another way: with places that are gone through by one closure a kind.
func inWords(b []byte) (m api.Module, e api.Errno) {
	if len(b) > api.MaxBytes {
		return api.Module{}, api.ErrLimit
	}
	defer func() {
		switch thing := recover(); thing {
		case nil:
		case misfit{}:
			m, e = api.Module{}, api.ErrForm
		default:
			panic(thing)
		}
	}()
	m = laidOut(b)
	if e := wf.Check(m); e != api.OK {
		return api.Module{}, e
	}
	return m, api.OK
}

// taker takes what stands ahead in the bytes that are left.
type taker struct{ left []byte }

func (k *taker) bytes(count int64) []byte {
	if count < 0 || count > int64(len(k.left)) {
		panic(misfit{})
	}
	taken := k.left[:count]
	k.left = k.left[count:]
	return taken
}

// wide takes a number and holds it against the one form that it may have.
func (k *taker) wide() int64 {
	first := k.bytes(1)[0]
	if first > 24 || first > 8 && first < 16 {
		panic(misfit{})
	}
	digits := k.bytes(int64(first % 16))
	n := int64(0)
	for _, d := range digits {
		n = n*256 + int64(d)
	}
	if first >= 16 {
		n = -1 - n
	}
	if !bytes.Equal(numberBytes(n), append([]byte{first}, digits...)) {
		panic(misfit{})
	}
	return n
}

func (k *taker) within(least, most int64) int {
	n := k.wide()
	if n < least || n > most {
		panic(misfit{})
	}
	return int(n)
}

func (k *taker) number() int { return k.within(-2147483648, 2147483647) }

func (k *taker) count() int { return k.within(0, 2147483647) }

func (k *taker) name() string { return string(k.bytes(int64(k.within(0, 12)))) }

func (k *taker) numbers() []int {
	var list []int
	for range k.count() {
		list = append(list, k.number())
	}
	return list
}

func laidOut(b []byte) api.Module {
	k := &taker{b}
	if string(k.bytes(5)) != "\x00pln1" {
		panic(misfit{})
	}
	var m api.Module
	for range k.count() {
		name, result := k.name(), k.number()
		m.Externs = append(m.Externs, api.Extern{Name: name, Result: result, Params: k.numbers()})
	}
	for range k.count() {
		g := api.Global{Name: k.name()}
		for range k.count() {
			g.Cells = append(g.Cells, k.wide())
		}
		m.Globals = append(m.Globals, g)
	}
	for range k.count() {
		name := k.name()
		m.Tables = append(m.Tables, api.Table{Name: name, Funcs: k.numbers()})
	}
	for range k.count() {
		m.Funcs = append(m.Funcs, k.function())
	}
	if len(k.left) > 0 {
		panic(misfit{})
	}
	return m
}

func (k *taker) function() api.Func {
	name, isOut, result := k.name(), k.within(0, 1), k.number()
	f := api.Func{Name: name, Out: isOut == 1, Result: result, Params: k.numbers()}
	for range k.count() {
		var block api.Block
		for range k.count() {
			op, typ, to, sym, num := k.number(), k.number(), k.number(), k.number(), k.wide()
			args := k.numbers()
			block.Ins = append(block.Ins, api.Ins{Op: op, Type: typ, To: to, Sym: sym, Num: num, Args: args, Into: k.numbers()})
		}
		f.Blocks = append(f.Blocks, block)
	}
	return f
}
