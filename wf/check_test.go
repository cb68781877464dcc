package wf

import (
	"reflect"
	"slices"
	"testing"

	"planish/api"
)

// order is that of P6.3.
func order() []api.Errno {
	return []api.Errno{api.ErrLimit, api.ErrForm, api.ErrName, api.ErrSym, api.ErrFlow, api.ErrUse, api.ErrType}
}

// first is the one of two errors that P6.3 names first.
func first(a, b api.Errno) api.Errno {
	if slices.Index(order(), a) < slices.Index(order(), b) {
		return a
	}
	return b
}

func wantCheck(t *testing.T, what string, m api.Module, want api.Errno) {
	t.Helper()
	if got := Check(m); got != want {
		t.Errorf("P6.3: Check: %s: %d, not %d", what, got, want)
	}
}

func changed(changes ...func(m *api.Module)) api.Module {
	m := base()
	for _, change := range changes {
		change(&m)
	}
	return m
}

func in(k int, change func(h half)) func(m *api.Module) {
	return func(m *api.Module) {
		if change != nil {
			change(half{m, k})
		}
	}
}

func TestOfWhatMayBe(t *testing.T) {
	m := base()
	wantCheck(t, "base", m, api.OK)
	wantCheck(t, "nothing", api.Module{}, api.OK)
	wantCheck(t, "empty lists", api.Module{Externs: []api.Extern{}, Globals: []api.Global{}, Tables: []api.Table{}, Funcs: []api.Func{}}, api.OK)
	wantCheck(t, "no functions", api.Module{Externs: m.Externs, Globals: m.Globals, Tables: []api.Table{{Name: "t", Funcs: []int{-1}}}}, api.OK)
	wantCheck(t, "functions alone", api.Module{Funcs: []api.Func{{Name: "f", Blocks: []api.Block{row(take(api.Ret))}}}}, api.OK)
}

// TestOfNoFunctions: the other parts are looked at all the same.
func TestOfNoFunctions(t *testing.T) {
	wantCheck(t, "a global of no cells", api.Module{Globals: []api.Global{{Name: "g"}}}, api.ErrLimit)
	wantCheck(t, "an extern that takes a pointer", api.Module{Externs: []api.Extern{{Name: "e", Params: []int{api.Ptr}}}}, api.ErrForm)
	wantCheck(t, "an extern without a name", api.Module{Externs: []api.Extern{{}}}, api.ErrName)
	wantCheck(t, "a table of a function", api.Module{Tables: []api.Table{{Name: "t", Funcs: []int{-1, 0}}}}, api.ErrSym)
}

func TestEachFaultAndItsNeighbour(t *testing.T) {
	seen := make(map[api.Errno]int)
	for _, f := range faults() {
		seen[f.e]++
		for k := range 2 {
			wantCheck(t, f.name, changed(in(k, f.bad)), f.e)
			wantCheck(t, "beside "+f.name, changed(in(k, f.good)), api.OK)
		}
	}
	for _, e := range order() {
		if seen[e] == 0 {
			t.Errorf("the test has no fault of %d", e)
		}
	}
}

// TestTwoFaults has each fault beside some of all numbers, ahead of it and behind it.
func TestTwoFaults(t *testing.T) {
	all := faults()
	some := slices.Clone(all[:0])
	count := make(map[api.Errno]int)
	for _, f := range all {
		if count[f.e]++; count[f.e]%13 == 1 {
			some = append(some, f)
		}
	}
	for _, f := range all {
		for _, g := range some {
			for k := range 2 {
				wantCheck(t, f.name+" and "+g.name, changed(in(k, f.bad), in(1-k, g.bad)), first(f.e, g.e))
			}
		}
	}
}

// broken are functions that may not be, with the error of each one by itself: what stands elsewhere is found beside them.
func broken() []struct {
	f api.Func
	e api.Errno
} {
	ret := take(api.Ret)
	return []struct {
		f api.Func
		e api.Errno
	}{
		{function(nil, 0), api.ErrLimit},
		{function(nil, 0, row(), row()), api.ErrFlow},
		{function(nil, 0, row(), row(phi(api.I64, 1, 9, 9), ret)), api.ErrFlow},
		{function(nil, 0, row(jump(7)), row(jump(-7))), api.ErrFlow},
		{function(nil, 0, row(br(99, 1<<40, -1<<40))), api.ErrFlow},
		{function(nil, 0, row(give(api.Add, api.I64, 1, -5, 1<<40), ret)), api.ErrUse},
		{function(nil, 0, row(take(api.Via, 99), ret)), api.ErrUse},
		{function(nil, 0, row(take(api.Ret, 99))), api.ErrUse},
		{function(nil, 0, row(jump(1)), row(phi(api.I64, 1, -1, 0), ret)), api.ErrUse},
		{function(nil, 0, row(with(take(api.Call), 99), ret)), api.ErrSym},
		{function(nil, 0, row(api.Ins{Op: 99, Args: []int{99}, Into: []int{99}})), api.ErrForm},
		{function(nil, 0, row(take(api.Via), take(api.Br), take(api.Jump))), api.ErrForm},
	}
}

func TestFunctionsThatMayNotBeBesideFaults(t *testing.T) {
	for _, b := range broken() {
		for k := range 2 {
			wantCheck(t, "alone", changed(in(k, as(b.f))), b.e)
			for _, f := range faults() {
				wantCheck(t, f.name, changed(in(k, as(b.f)), in(1-k, f.bad)), first(b.e, f.e))
			}
		}
	}
}

// eachIns shows each Ins of base's first half, to be changed.
func eachIns(show func(m *api.Module, ins *api.Ins)) {
	for f := range funcsOfHalf {
		for b, block := range base().Funcs[f].Blocks {
			for i := range block.Ins {
				m := base()
				show(&m, &m.Funcs[f].Blocks[b].Ins[i])
			}
		}
	}
}

// TestFormOfEachOp gives each Ins more and fewer Args and Into, and what Mark says that it has not.
func TestFormOfEachOp(t *testing.T) {
	seen := make(map[int]int)
	want := func(m *api.Module, ins *api.Ins, change func()) {
		t.Helper()
		was := *ins
		change()
		if got := Check(*m); got != api.ErrForm {
			t.Errorf("P6.3: Check of %+v in place of %+v: %d, not %d", *ins, was, got, api.ErrForm)
		}
		*ins = was
	}
	eachIns(func(m *api.Module, ins *api.Ins) {
		seen[ins.Op]++
		says := table[ins.Op]
		if says.args >= 0 {
			want(m, ins, func() { ins.Args = append(slices.Clone(ins.Args), 1) })
		}
		if says.args > 0 {
			want(m, ins, func() { ins.Args = ins.Args[1:] })
			want(m, ins, func() { ins.Args = nil })
		}
		want(m, ins, func() { ins.Into = append(slices.Clone(ins.Into), 1) })
		if says.into > 0 {
			want(m, ins, func() { ins.Into = ins.Into[1:] })
			want(m, ins, func() { ins.Into = nil })
		}
		for _, n := range []int{-1 << 63, -1, 1, 1 << 32} {
			if !says.sym {
				want(m, ins, func() { ins.Sym = n })
			}
			if !says.num {
				want(m, ins, func() { ins.Num = int64(n) })
			}
		}
	})
	for op := range table {
		if seen[op] == 0 {
			t.Errorf("the test has no Ins of Op %d", op)
		}
	}
}

// TestTypeAndToOfEachOp: types that are none, given where nothing may be, and not where something must; and To beside them.
func TestTypeAndToOfEachOp(t *testing.T) {
	givesNone := []int{api.Store, api.Jump, api.Br, api.Ret, api.Stop}
	givesMaybe := []int{api.Call, api.Ext, api.Via}
	eachIns(func(m *api.Module, ins *api.Ins) {
		was := *ins
		for _, typ := range oddNumbers() {
			for _, to := range oddNumbers() {
				ins.Type, ins.To = typ, to
				bad := typ < 0 || typ > 4 || typ == 0 && to != 0 || typ != 0 && to < 1 ||
					typ != 0 && slices.Contains(givesNone, ins.Op) ||
					typ == 0 && !slices.Contains(givesNone, ins.Op) && !slices.Contains(givesMaybe, ins.Op)
				if got := Check(*m); (got == api.ErrForm) != bad || got == api.ErrLimit {
					t.Errorf("P6.3: Check of %+v in place of %+v: %d", *ins, was, got)
				}
			}
		}
	})
}

// TestWhatIsHandedInStays: neither what is handed in nor what lies behind its lengths is changed, or says anything; nor
// does it whether a list of nothing is nil.
func TestWhatIsHandedInStays(t *testing.T) {
	for _, f := range append(faults(), fault{"base", api.OK, nil, nil}) {
		for _, room := range []int{0, 3} {
			for _, asNil := range []bool{false, true} {
				m := remade(changed(in(0, f.bad)), room, asNil)
				before := memory(m)
				wantCheck(t, f.name+", in other memory", m, f.e)
				wantCheck(t, f.name+", again", m, f.e)
				if !reflect.DeepEqual(memory(m), before) {
					t.Errorf("P0.4: Check: %s: what was handed in is changed", f.name)
				}
			}
		}
	}
}

// TestOfMuch: what is far above the limits is told as soon as what is one above them.
func TestOfMuch(t *testing.T) {
	const much = 1 << 16
	wantCheck(t, "functions", api.Module{Funcs: make([]api.Func, much)}, api.ErrLimit)
	wantCheck(t, "externs", api.Module{Externs: make([]api.Extern, much)}, api.ErrLimit)
	wantCheck(t, "blocks", changed(in(1, as(inARow(much)))), api.ErrLimit)
	wantCheck(t, "Ins", changed(in(1, as(function(nil, 0, api.Block{Ins: make([]api.Ins, much)})))), api.ErrLimit)
	wantCheck(t, "cells", changed(in(0, cells(much))), api.ErrLimit)
	wantCheck(t, "entries", changed(in(0, entries(much))), api.ErrLimit)
	wantCheck(t, "Args", changed(in(0, as(function(nil, 0, row(take(api.Call, make([]int, much)...), take(api.Ret)))))), api.ErrForm)
	long := give(api.Phi, api.I64, 1, make([]int, much)...)
	long.Into = make([]int, much)
	wantCheck(t, "entries of a Phi", changed(in(0, as(function(nil, 0, row(jump(1)), row(long, take(api.Ret)))))), api.ErrFlow)
}
