package ir

import (
	"math"
	"slices"
	"testing"

	"planish/api"
)

// counted is a function, and what P3.1 says of it.
type counted struct {
	name         string
	f            api.Func
	size, values int
	types, uses  []int
}

func countedFuncs() []counted {
	none := api.Ins{Op: api.Stop}
	one := api.Ins{Op: api.Num, Type: api.I64, To: 1}
	return []counted{
		{"nothing", api.Func{}, 0, 0, []int{0}, []int{0}},
		{"empty lists", api.Func{Params: []int{}, Blocks: []api.Block{}}, 0, 0, []int{0}, []int{0}},
		{"a parameter", api.Func{Params: []int{api.Fun}}, 0, 1, []int{0, api.Fun}, []int{0, 0}},
		{"a parameter of type 0", api.Func{Params: []int{0}}, 0, 1, []int{0, 0}, []int{0, 0}},
		{"parameters", api.Func{Params: []int{api.Ptr, 9, -1}}, 0, 3, []int{0, api.Ptr, 9, -1}, []int{0, 0, 0, 0}},
		{"an empty block", api.Func{Blocks: []api.Block{{}}}, 0, 0, []int{0}, []int{0}},
		{"empty blocks", api.Func{Params: []int{1}, Blocks: []api.Block{{}, {Ins: []api.Ins{}}}}, 0, 1, []int{0, 1}, []int{0, 0}},
		{"an Ins that gives none", api.Func{Blocks: []api.Block{{Ins: []api.Ins{none}}}}, 1, 0, []int{0}, []int{0}},
		{"an Ins of Type 0 with a To", api.Func{Blocks: []api.Block{{Ins: []api.Ins{{Op: api.Add, To: 1}}}}}, 1, 0, []int{0}, []int{0}},
		{"an Ins that gives one", api.Func{Blocks: []api.Block{{Ins: []api.Ins{one}}}}, 1, 1, []int{0, api.I64}, []int{0, 0}},
		{"an end that gives one", api.Func{Blocks: []api.Block{{Ins: []api.Ins{{Op: api.Ret, Type: api.I1}}}}}, 1, 1, []int{0, api.I1}, []int{0, 0}},
		{"types that are none", api.Func{Blocks: []api.Block{{Ins: []api.Ins{{Type: -3}, {Type: math.MinInt}, {Type: 99}}}}}, 3, 3,
			[]int{0, -3, math.MinInt, 99}, []int{0, 0, 0, 0}},
		{"the example", api.Func{Params: []int{api.I64, api.I64}, Blocks: []api.Block{{Ins: []api.Ins{
			{Op: api.Add, Type: api.I64, To: 3, Args: []int{1, 2}}}}}}, 1, 3, []int{0, 1, 1, 1}, []int{0, 1, 1, 0}},
		{"several of all", sampleFunc(), 7, 5, []int{0, api.I64, api.I1, api.Ptr, api.I64, api.I64}, []int{0, 3, 2, 1, 1, 1}},
		{"empty blocks between", api.Func{Blocks: []api.Block{{}, {Ins: []api.Ins{one, none}}, {}, {Ins: []api.Ins{one}}}}, 3, 2,
			[]int{0, api.I64, api.I64}, []int{0, 0, 0}},
		{"types in order, whatever their To", api.Func{Params: []int{api.I1}, Blocks: []api.Block{
			{Ins: []api.Ins{{Type: api.Ptr, To: 3}, {Type: 0, To: 4}, {Type: api.Fun, To: 2}}},
			{Ins: []api.Ins{{Type: api.I64, To: 2}}}}}, 4, 4, []int{0, api.I1, api.Ptr, api.Fun, api.I64}, []int{0, 0, 0, 0, 0}},
	}
}

func TestCounts(t *testing.T) {
	for _, c := range countedFuncs() {
		if got := Size(c.f); got != c.size {
			t.Errorf("P3.1: %s: Size %d, not %d", c.name, got, c.size)
		}
		if got := Values(c.f); got != c.values {
			t.Errorf("P3.1: %s: Values %d, not %d", c.name, got, c.values)
		}
		if got := Types(c.f); !slices.Equal(got, c.types) {
			t.Errorf("P3.1: %s: Types %v, not %v", c.name, got, c.types)
		}
		if got := Uses(c.f); !slices.Equal(got, c.uses) {
			t.Errorf("P3.1: %s: Uses %v, not %v", c.name, got, c.uses)
		}
	}
}

// taking is sampleFunc, whose last Ins takes args.
func taking(args ...int) api.Func {
	f := sampleFunc()
	f.Blocks[2].Ins[1].Args = args
	return f
}

func TestUsesOfWhatArgsName(t *testing.T) {
	for _, c := range []struct {
		args, uses []int
	}{
		{nil, []int{0, 3, 2, 1, 1, 0}},
		{[]int{}, []int{0, 3, 2, 1, 1, 0}},
		{[]int{1}, []int{0, 4, 2, 1, 1, 0}},
		{[]int{2, 2, 2}, []int{0, 3, 5, 1, 1, 0}},
		{[]int{5, 3, 5}, []int{0, 3, 2, 2, 1, 2}},
		{[]int{0}, []int{1, 3, 2, 1, 1, 0}},
		{[]int{0, 0, 5}, []int{2, 3, 2, 1, 1, 1}},
		{[]int{6, 7, 1 << 32, 1<<32 + 1, math.MaxInt}, []int{0, 3, 2, 1, 1, 0}},
		{[]int{-1, -2, -5, -1 << 32, math.MinInt, math.MinInt + 1}, []int{0, 3, 2, 1, 1, 0}},
		{[]int{-1, 5, 6, 0, 1}, []int{1, 4, 2, 1, 1, 1}},
	} {
		if got := Uses(taking(c.args...)); !slices.Equal(got, c.uses) {
			t.Errorf("P3.1: Uses where the last Args are %v: %v, not %v", c.args, got, c.uses)
		}
	}
}

func TestUsesCountsOnlyArgs(t *testing.T) {
	f := api.Func{Params: []int{1, 1, 1}, Result: 1, Blocks: []api.Block{{Ins: []api.Ins{
		{Op: api.Call, Type: 1, To: 2, Sym: 3, Num: 1, Into: []int{0, 1, 2, 3}}, {To: 1, Sym: 1, Num: 2},
	}}}}
	if got := Uses(f); !slices.Equal(got, []int{0, 0, 0, 0, 0}) {
		t.Errorf("P3.1: Uses where there are no Args: %v", got)
	}
}

// TestUsesCountsByPlaceInOrder: what an Ins has as its To does not make that number a value.
func TestUsesCountsByPlaceInOrder(t *testing.T) {
	f := api.Func{Blocks: []api.Block{{Ins: []api.Ins{
		{Type: 1, To: 50, Args: []int{50, 1, 2}}, {Type: 0, To: 2, Args: []int{2, 50, 0}},
	}}}}
	if got := Uses(f); !slices.Equal(got, []int{1, 1}) {
		t.Errorf("P3.1: Uses %v, not [1 1]", got)
	}
}

func TestWhole(t *testing.T) {
	f := sampleFunc()
	for _, c := range []struct {
		name string
		m    api.Module
		want int
	}{
		{"none", api.Module{}, 0},
		{"the empty list", api.Module{Funcs: []api.Func{}}, 0},
		{"no functions, but else", api.Module{Externs: sampleModule().Externs, Globals: sampleModule().Globals, Tables: sampleModule().Tables}, 0},
		{"an empty one", api.Module{Funcs: []api.Func{{}}}, 0},
		{"one", api.Module{Funcs: []api.Func{f}}, 7},
		{"the same twice", api.Module{Funcs: []api.Func{f, f}}, 14},
		{"several", sampleModule(), 9},
		{"several, some empty", api.Module{Funcs: []api.Func{{}, f, {Blocks: []api.Block{{}}}, f, {}}}, 14},
	} {
		if got := Whole(c.m); got != c.want {
			t.Errorf("P3.1: Whole of %s: %d, not %d", c.name, got, c.want)
		}
	}
}

// TestCountsOfThrownFunctions holds the counts against the words of P3.1, taken one by one.
func TestCountsOfThrownFunctions(t *testing.T) {
	thrown := dice(1)
	m, whole := api.Module{}, 0
	for range 2000 {
		f := thrown.function()
		all, types, args := []api.Ins{}, append([]int{0}, f.Params...), []int{}
		for _, block := range f.Blocks {
			all = append(all, block.Ins...)
		}
		for _, ins := range all {
			args = append(args, ins.Args...)
			if ins.Type != 0 {
				types = append(types, ins.Type)
			}
		}
		uses := make([]int, len(types))
		for v := range uses {
			for _, arg := range args {
				if arg == v {
					uses[v]++
				}
			}
		}
		if Size(f) != len(all) || Values(f) != len(types)-1 || !slices.Equal(Types(f), types) || !slices.Equal(Uses(f), uses) {
			t.Fatalf("P3.1: %d, %d, %v, %v, not %d, %d, %v, %v, of %+v",
				Size(f), Values(f), Types(f), Uses(f), len(all), len(types)-1, types, uses, f)
		}
		m.Funcs = append(m.Funcs, f)
		whole += len(all)
	}
	if got := Whole(m); got != whole {
		t.Errorf("P3.1: Whole %d, not %d", got, whole)
	}
}

func TestCountsLeaveWhatIsHandedIn(t *testing.T) {
	for _, spare := range []int{0, 3} {
		f := clone(sampleFunc(), spare)
		before := memory(f)
		types, uses := Types(f), Uses(f)
		if Size(f) != 7 || Values(f) != 5 || Whole(api.Module{Funcs: []api.Func{f}}) != 7 ||
			!slices.Equal(types, Types(sampleFunc())) || !slices.Equal(uses, Uses(sampleFunc())) {
			t.Errorf("P0.4: what lies behind a length is counted")
		}
		if !alike(memory(f), before) {
			t.Errorf("P0.4: what was handed in is changed")
		}
		wantNewMemory(t, "Types", types, f)
		wantNewMemory(t, "Uses", uses, f)
		wantNewMemory(t, "Types twice", types, [][]int{Types(f), uses})
		wantNewMemory(t, "Uses twice", uses, [][]int{Uses(f), types})
	}
}
