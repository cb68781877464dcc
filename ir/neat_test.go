package ir

import (
	"math"
	"testing"

	"planish/api"
)

// single is a function of some parameters, with these instructions in its one block.
func single(params int, list ...api.Ins) api.Func {
	f := api.Func{Blocks: []api.Block{{Ins: list}}}
	for range params {
		f.Params = append(f.Params, api.I64)
	}
	return f
}

func wantNeat(t *testing.T, name string, f, want api.Func) {
	t.Helper()
	before := clone(f, 0)
	got := Neat(f)
	if !alike(got, want) {
		t.Errorf("P3.3: %s: %+v, not %+v", name, got, want)
	}
	if again := Neat(got); !alike(again, got) {
		t.Errorf("P3.4: %s: neat twice: %+v, not %+v", name, again, got)
	}
	if !alike(f, before) {
		t.Errorf("P0.4: %s: what was handed in is changed: %+v, not %+v", name, f, before)
	}
}

func TestNeatOfWhatIsNeatAlready(t *testing.T) {
	wantNeat(t, "nothing", api.Func{}, api.Func{})
	wantNeat(t, "the empty lists", api.Func{Params: []int{}, Blocks: []api.Block{}}, api.Func{})
	wantNeat(t, "parameters alone", api.Func{Name: "p", Out: true, Params: []int{0, -1, 9}, Result: -4},
		api.Func{Name: "p", Out: true, Params: []int{0, -1, 9}, Result: -4})
	wantNeat(t, "empty blocks", api.Func{Blocks: []api.Block{{}, {Ins: []api.Ins{}}}}, api.Func{Blocks: []api.Block{{}, {}}})
	for _, f := range sampleModule().Funcs {
		wantNeat(t, "a sample", f, clone(f, 0))
	}
}

// TestNeatOfPhis has a Phi that takes as many parameters as it has entries, so that no number changes but by the order.
func TestNeatOfPhis(t *testing.T) {
	for _, c := range []struct {
		name                         string
		args, into, neatArgs, neatIn []int
	}{
		{"no entry", nil, nil, nil, nil},
		{"empty lists", []int{}, []int{}, nil, nil},
		{"one entry", []int{2}, []int{7}, []int{2}, []int{7}},
		{"rising", []int{3, 1, 2}, []int{0, 1, 2}, []int{3, 1, 2}, []int{0, 1, 2}},
		{"falling", []int{1, 2, 3}, []int{2, 1, 0}, []int{3, 2, 1}, []int{0, 1, 2}},
		{"neither", []int{1, 2, 3, 4}, []int{2, 9, 0, 5}, []int{3, 1, 4, 2}, []int{0, 2, 5, 9}},
		{"args that fall", []int{4, 3, 2, 1}, []int{1, 0, 3, 2}, []int{3, 4, 1, 2}, []int{0, 1, 2, 3}},
		{"two of the same", []int{2, 1}, []int{4, 4}, []int{2, 1}, []int{4, 4}},
		{"two of the same, apart", []int{3, 1, 2}, []int{5, 1, 5}, []int{1, 3, 2}, []int{1, 5, 5}},
		{"twice two of the same", []int{4, 3, 2, 1}, []int{5, 1, 5, 1}, []int{3, 1, 4, 2}, []int{1, 1, 5, 5}},
		{"the same entry twice", []int{1, 1, 2, 2}, []int{5, 5, 1, 1}, []int{2, 2, 1, 1}, []int{1, 1, 5, 5}},
		{"below 0", []int{1, 2, 3}, []int{1, -1, -2}, []int{3, 2, 1}, []int{-2, -1, 1}},
		{"far apart", []int{1, 2, 3, 4}, []int{math.MaxInt, math.MinInt, 0, -1}, []int{2, 4, 3, 1}, []int{math.MinInt, -1, 0, math.MaxInt}},
		{"one Into more", []int{2, 1}, []int{3, 2, 1}, []int{2, 1}, []int{3, 2, 1}},
		{"one Into less", []int{3, 2, 1}, []int{2, 1}, []int{3, 2, 1}, []int{2, 1}},
		{"no Into", []int{3, 2, 1}, nil, []int{3, 2, 1}, nil},
		{"no Args", nil, []int{3, 2, 1}, nil, []int{3, 2, 1}},
	} {
		for _, kind := range []int{api.I64, api.Fun, -3, 0} {
			phi := api.Ins{Op: api.Phi, Type: kind, To: 5, Sym: 2, Num: -1, Args: c.args, Into: c.into}
			neat := api.Ins{Op: api.Phi, Type: kind, Sym: 2, Num: -1, Args: c.neatArgs, Into: c.neatIn}
			if kind != 0 {
				neat.To = 5
			}
			wantNeat(t, c.name, single(4, phi), single(4, neat))
		}
	}
}

// TestNeatOfManyOfTheSame: so many entries that a sort that is not stable is found out.
func TestNeatOfManyOfTheSame(t *testing.T) {
	const count, kinds = 200, 3
	phi := api.Ins{Op: api.Phi, Type: api.I64, To: count + 1}
	neat := phi
	for i := range count {
		phi.Args, phi.Into = append(phi.Args, i+1), append(phi.Into, (count-i)%kinds)
	}
	for kind := range kinds {
		for i, into := range phi.Into {
			if into == kind {
				neat.Args, neat.Into = append(neat.Args, i+1), append(neat.Into, kind)
			}
		}
	}
	wantNeat(t, "many", single(count, phi), single(count, neat))
}

func TestNeatOfPhisWhereverTheyStand(t *testing.T) {
	crooked := api.Ins{Op: api.Phi, Args: []int{1, 2}, Into: []int{3, 0}}
	straight := api.Ins{Op: api.Phi, Args: []int{2, 1}, Into: []int{0, 3}}
	stop := api.Ins{Op: api.Stop}
	f, want := single(2, crooked, stop, crooked), single(2, straight, stop, straight)
	f.Blocks = append(f.Blocks, api.Block{}, api.Block{Ins: []api.Ins{stop, crooked}})
	want.Blocks = append(want.Blocks, api.Block{}, api.Block{Ins: []api.Ins{stop, straight}})
	wantNeat(t, "Phis behind others", f, want)
}

func TestNeatSortsNothingButPhis(t *testing.T) {
	for op := -1; op <= api.Stop+1; op++ {
		if op == api.Phi {
			continue
		}
		ins := api.Ins{Op: op, Sym: -7, Num: math.MinInt64, Args: []int{1, 2}, Into: []int{3, 0}}
		wantNeat(t, "another op", single(2, ins), single(2, ins))
	}
}

func TestNeatNumbersInOrder(t *testing.T) {
	f := api.Func{Name: "n", Out: true, Params: []int{api.I1}, Result: api.I64, Blocks: []api.Block{
		{Ins: []api.Ins{
			{Op: api.Num, Type: api.I64, To: 9, Num: 4},
			{Op: api.Add, Type: api.I64, To: 2, Args: []int{9, 7}},
			{Op: api.Store, Args: []int{2, 9}},
			{Op: api.Br, Args: []int{1}, Into: []int{2, 1}},
		}},
		{},
		{Ins: []api.Ins{
			{Op: api.Phi, Type: api.I64, To: 7, Args: []int{7, 2, 9}, Into: []int{4, 2, 3}},
			{Op: api.Call, Type: api.Fun, To: -6, Sym: 3, Args: []int{-6, 7}},
			{Op: api.Ret, Args: []int{-6}},
		}},
	}}
	want := api.Func{Name: "n", Out: true, Params: []int{api.I1}, Result: api.I64, Blocks: []api.Block{
		{Ins: []api.Ins{
			{Op: api.Num, Type: api.I64, To: 2, Num: 4},
			{Op: api.Add, Type: api.I64, To: 3, Args: []int{2, 4}},
			{Op: api.Store, Args: []int{3, 2}},
			{Op: api.Br, Args: []int{1}, Into: []int{2, 1}},
		}},
		{},
		{Ins: []api.Ins{
			{Op: api.Phi, Type: api.I64, To: 4, Args: []int{3, 2, 4}, Into: []int{2, 3, 4}},
			{Op: api.Call, Type: api.Fun, To: 5, Sym: 3, Args: []int{5, 4}},
			{Op: api.Ret, Args: []int{5}},
		}},
	}}
	wantNeat(t, "numbers out of order", f, want)
}

// numbered is a row of Tos of instructions that give a value, with the number that Args name, and the one that they name then.
type numbered struct {
	name     string
	params   int
	tos      []int
	arg, now int
}

func TestNeatOfArgs(t *testing.T) {
	for _, c := range []numbered{
		{"a parameter", 2, []int{3, 4}, 1, 1},
		{"the last parameter", 2, []int{3, 4}, 2, 2},
		{"a parameter whose number was a To too", 2, []int{2, 1}, 2, 2},
		{"a value that lies ahead of the parameters' end", 2, []int{1, 3}, 3, 4},
		{"a value", 2, []int{4, 3}, 4, 3},
		{"the last value", 2, []int{4, 3}, 3, 4},
		{"two of the same To", 1, []int{8, 5, 5}, 5, 3},
		{"all of the same To", 0, []int{5, 5, 5}, 5, 1},
		{"a To that is 0", 1, []int{2, 0}, 0, 3},
		{"two Tos that are 0", 0, []int{0, 0}, 0, 1},
		{"a To below 0", 1, []int{2, -3}, -3, 3},
		{"the least To", 0, []int{1, math.MinInt}, math.MinInt, 2},
		{"the greatest To", 0, []int{1, math.MaxInt}, math.MaxInt, 2},
		{"0, of none", 2, []int{3}, 0, 0},
		{"0, of nothing at all", 0, nil, 0, 0},
		{"one past the parameters", 2, nil, 3, 0},
		{"one past the values", 2, []int{3}, 4, 0},
		{"a number that a value gets, but had not", 1, []int{7, 8}, 2, 0},
		{"below 0, of none", 2, []int{3}, -1, 0},
		{"the least, of none", 2, []int{3}, math.MinInt, 0},
		{"the greatest, of none", 2, []int{3}, math.MaxInt, 0},
		{"its low half alone", 2, []int{3}, 1<<32 + 1, 0},
	} {
		var f, want []api.Ins
		takes, took := api.Ins{Op: api.Call, Args: []int{c.arg, c.arg}}, api.Ins{Op: api.Call, Args: []int{c.now, c.now}}
		f, want = append(f, takes), append(want, took)
		for i, to := range c.tos {
			f = append(f, api.Ins{Op: api.Call, Type: api.I64, To: to, Args: []int{c.arg}})
			want = append(want, api.Ins{Op: api.Call, Type: api.I64, To: c.params + 1 + i, Args: []int{c.now}})
		}
		wantNeat(t, c.name, single(c.params, append(f, takes)...), single(c.params, append(want, took)...))
	}
}

// TestNeatOfInsThatGiveNone: their To is 0 then, takes no number, and names nothing, also where another Ins has it too.
func TestNeatOfInsThatGiveNone(t *testing.T) {
	wantNeat(t, "a To of Type 0",
		single(1, api.Ins{Op: api.Store, To: 7, Args: []int{7, 1}}, api.Ins{Op: api.Ret, To: -1, Args: []int{7}}),
		single(1, api.Ins{Op: api.Store, Args: []int{0, 1}}, api.Ins{Op: api.Ret, Args: []int{0}}))
	wantNeat(t, "the same To with a Type behind it",
		single(0, api.Ins{Op: api.Call, To: 7}, api.Ins{Op: api.Num, Type: api.I64, To: 7}, api.Ins{Op: api.Ret, To: 7, Args: []int{7}}),
		single(0, api.Ins{Op: api.Call}, api.Ins{Op: api.Num, Type: api.I64, To: 1}, api.Ins{Op: api.Ret, Args: []int{1}}))
	wantNeat(t, "the To 0 of Type 0",
		single(0, api.Ins{Op: api.Call, Args: []int{0}}, api.Ins{Op: api.Num, Type: api.I64, To: 3}),
		single(0, api.Ins{Op: api.Call, Args: []int{0}}, api.Ins{Op: api.Num, Type: api.I64, To: 1}))
	wantNeat(t, "an end that gives one",
		single(0, api.Ins{Op: api.Ret, Type: -1, To: 6, Args: []int{6}}),
		single(0, api.Ins{Op: api.Ret, Type: -1, To: 1, Args: []int{1}}))
}

func TestNeatNumbersPhisThatStay(t *testing.T) {
	wantNeat(t, "Args and Into not as many",
		single(1, api.Ins{Op: api.Phi, Type: api.I64, To: 8, Args: []int{8, 5, 1}, Into: []int{3, 2}}, api.Ins{Op: api.Num, Type: api.I64, To: 5}),
		single(1, api.Ins{Op: api.Phi, Type: api.I64, To: 2, Args: []int{2, 3, 1}, Into: []int{3, 2}}, api.Ins{Op: api.Num, Type: api.I64, To: 3}))
}

// neatByWords is Neat as P3.3 says it, place by place, without a sort or a map.
func neatByWords(f api.Func) api.Func {
	neat := clone(f, 0)
	last := len(f.Params)
	for b, block := range f.Blocks {
		for i, ins := range block.Ins {
			made := &neat.Blocks[b].Ins[i]
			made.To = 0
			if ins.Type != 0 {
				last++
				made.To = last
			}
			for k, arg := range ins.Args {
				at := k
				if ins.Op == api.Phi && len(ins.Args) == len(ins.Into) {
					at = placeByWords(ins.Into, k)
					made.Into[at] = ins.Into[k]
				}
				made.Args[at] = numberByWords(f, arg)
			}
		}
	}
	return neat
}

func placeByWords(into []int, k int) int {
	place := 0
	for i, from := range into {
		if from < into[k] || from == into[k] && i < k {
			place++
		}
	}
	return place
}

func numberByWords(f api.Func, arg int) int {
	if arg >= 1 && arg <= len(f.Params) {
		return arg
	}
	last := len(f.Params)
	for _, block := range f.Blocks {
		for _, ins := range block.Ins {
			if ins.Type == 0 {
				continue
			}
			last++
			if ins.To == arg {
				return last
			}
		}
	}
	return 0
}

func TestNeatOfThrownFunctions(t *testing.T) {
	thrown := dice(4)
	for range 3000 {
		f := thrown.function()
		wantNeat(t, "thrown", f, neatByWords(f))
		if t.Failed() {
			return
		}
	}
}

func TestNeatIsInNewMemory(t *testing.T) {
	shared := []int{2, 1}
	phi := api.Ins{Op: api.Phi, Type: api.I64, To: 1, Args: shared, Into: shared}
	sharing := api.Func{Params: shared, Blocks: []api.Block{{Ins: []api.Ins{phi, phi}}}}
	sharing.Blocks = append(sharing.Blocks, sharing.Blocks[0])
	for name, f := range map[string]api.Func{
		"nothing": {}, "a sample": sampleFunc(), "spare room": clone(sampleFunc(), 3), "lists that are shared": sharing,
		"empty with spare room": clone(api.Func{Blocks: []api.Block{{Ins: []api.Ins{{}, {Op: api.Phi}}}}}, 2),
	} {
		before := memory(f)
		got := Neat(f)
		if !alike(memory(f), before) {
			t.Errorf("P0.4: Neat of %s: what was handed in is changed", name)
		}
		if !alike(got, neatByWords(f)) {
			t.Errorf("P3.3: Neat of %s: %+v, not %+v", name, got, neatByWords(f))
		}
		wantNewMemory(t, "Neat of "+name, got, f)
		wantNewMemory(t, "Neat twice of "+name, got, Neat(f))
		wantNewMemory(t, "Neat of what is neat of "+name, Neat(got), got)
	}
}
