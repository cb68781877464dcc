// Package thrown makes modules for the project's tests: they may be, have all Ops, and look thrown, but are the same
// ones in every run. It is no layer, and no layer calls it.
package thrown

import (
	"strconv"

	"planish/api"
)

// Dice gives numbers that look thrown. They hang on the number that it begins as, and on nothing else.
type Dice uint64

// Below gives a number from 0 to n less 1.
func (d *Dice) Below(n int) int {
	*d = *d*6364136223846793005 + 1442695040888963407
	// The low bits come again too soon.
	return int(uint64(*d)>>33) % n
}

// oneOf gives one of these, which may stand there more than once to come more often.
func (d *Dice) oneOf(list ...int) int { return list[d.Below(len(list))] }

// Number gives a number of 64 bits: most are small, some at the ends.
func (d *Dice) Number() int64 {
	switch d.Below(12) {
	case 0:
		return int64(d.oneOf(-1<<63, -1<<63+1, 1<<63-1, 1<<62, -1<<31, 1<<32))
	case 1:
		return int64(d.Below(1<<31) - 1<<30)
	}
	return int64(d.Below(9) - 3)
}

// Numbers gives that many numbers.
func (d *Dice) Numbers(count int) []int64 {
	var all []int64
	for range count {
		all = append(all, d.Number())
	}
	return all
}

// Args gives args that a function may be run with from outside.
func (d *Dice) Args(f api.Func) []int64 {
	var args []int64
	for _, typ := range f.Params {
		if typ == api.I1 {
			args = append(args, int64(d.Below(2)))
		} else {
			args = append(args, d.Number())
		}
	}
	return args
}

// Module makes a module. Its first function is Out.
func (d *Dice) Module() api.Module {
	var m api.Module
	for k := range d.Below(4) {
		m.Externs = append(m.Externs, api.Extern{Name: name("ext", k), Params: d.types(api.I64, api.I1), Result: d.oneOf(0, api.I64, api.I64, api.I1)})
	}
	for k := range d.Below(4) {
		m.Globals = append(m.Globals, api.Global{Name: name("glo", k), Cells: d.Numbers(1 + d.Below(4))})
	}
	for k := range 1 + d.Below(5) {
		m.Funcs = append(m.Funcs, d.signature(name("fun", k), k == 0 || d.Below(4) == 0))
	}
	for k := range d.Below(3) {
		t := api.Table{Name: name("tab", k)}
		for range 1 + d.Below(4) {
			t.Funcs = append(t.Funcs, d.Below(len(m.Funcs)+1)-1)
		}
		m.Tables = append(m.Tables, t)
	}
	for k := range m.Funcs {
		m.Funcs[k] = function(d, m, k)
	}
	return m
}

// signature gives a function that has no blocks yet.
func (d *Dice) signature(name string, isOut bool) api.Func {
	if isOut {
		return api.Func{Name: name, Out: true, Params: d.types(api.I64, api.I1), Result: d.oneOf(0, api.I64, api.I64, api.I1)}
	}
	return api.Func{Name: name, Params: d.types(api.I64, api.I1, api.Ptr, api.Fun), Result: d.oneOf(0, api.I64, api.I64, api.I1, api.Fun)}
}

// types gives none to MaxParams of these, few more often than many.
func (d *Dice) types(some ...int) []int {
	var all []int
	for range min(d.Below(api.MaxParams+1), d.Below(api.MaxParams+1)) {
		all = append(all, d.oneOf(some...))
	}
	return all
}

func name(kind string, k int) string { return kind + strconv.Itoa(k) }
