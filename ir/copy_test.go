package ir

import (
	"reflect"
	"testing"

	"planish/api"
)

// copied are modules to be copied, by name.
func copied() map[string]api.Module {
	shared := []int{2, 1}
	ins := api.Ins{Op: api.Phi, Type: api.I64, To: 1, Args: shared, Into: shared}
	block := api.Block{Ins: []api.Ins{ins, ins}}
	f := api.Func{Params: shared, Blocks: []api.Block{block, block}}
	return map[string]api.Module{
		"nothing":         {},
		"empty lists":     {Externs: []api.Extern{}, Globals: []api.Global{}, Tables: []api.Table{}, Funcs: []api.Func{}},
		"empty things":    {Externs: []api.Extern{{}}, Globals: []api.Global{{}}, Tables: []api.Table{{}}, Funcs: []api.Func{{}, {Blocks: []api.Block{{}}}}},
		"several of all":  sampleModule(),
		"with spare room": clone(sampleModule(), 3),
		"empty with spare room": clone(api.Module{Externs: []api.Extern{{}}, Globals: []api.Global{{}}, Tables: []api.Table{{}},
			Funcs: []api.Func{{Blocks: []api.Block{{Ins: []api.Ins{{}}}}}}}, 2),
		"lists that are shared": {Externs: []api.Extern{{Params: shared}}, Tables: []api.Table{{Funcs: shared}, {Funcs: shared[:1]}}, Funcs: []api.Func{f, f}},
	}
}

func TestCopyIsTheSame(t *testing.T) {
	for name, m := range copied() {
		before := memory(m)
		c := Copy(m)
		if !alike(c, m) || !Same(c, m) || !Same(m, c) {
			t.Errorf("P3.2: Copy of %s: %+v, not %+v", name, c, m)
		}
		if !alike(memory(m), before) {
			t.Errorf("P0.4: Copy of %s: what was handed in is changed", name)
		}
		if again := Copy(c); !alike(again, m) {
			t.Errorf("P3.4: a copy of a copy of %s: %+v, not %+v", name, again, m)
		}
	}
}

func TestCopyOfThrownFunctions(t *testing.T) {
	thrown := dice(3)
	for range 500 {
		m := api.Module{Funcs: []api.Func{thrown.function(), thrown.function()}}
		if c := Copy(m); !alike(c, m) {
			t.Fatalf("P3.2: Copy: %+v, not %+v", c, m)
		}
	}
}

func TestCopyIsInNewMemory(t *testing.T) {
	for name, m := range copied() {
		c := Copy(m)
		wantNewMemory(t, "Copy of "+name, c, m)
		wantNewMemory(t, "Copy twice of "+name, c, Copy(m))
		wantNewMemory(t, "Copy of a copy of "+name, Copy(c), c)
	}
}

// wantApart asks that nothing that is written into one, or appended to its lists, is to be seen in the other.
func wantApart(t *testing.T, name string, one, other *api.Module) {
	t.Helper()
	before := memory(*other)
	eachPart(one, func(what, _ string, part reflect.Value) {
		turn(part, func(how string) {
			if !alike(memory(*other), before) {
				t.Fatalf("P3.2: %s: %s of one: %s; the other one shows it", name, what, how)
			}
		})
		if part.Kind() == reflect.Slice {
			wasOne := clone(*one, 0)
			mark(reflect.Append(part, reflect.Zero(part.Type().Elem())).Index(part.Len()))
			if !alike(memory(*other), before) || !alike(*one, wasOne) {
				t.Fatalf("P0.4: %s: appended to %s of one; another list shows it", name, what)
			}
		}
	})
}

func TestCopyAndWhatWasCopiedAreApart(t *testing.T) {
	for _, spare := range []int{0, 3} {
		m := clone(sampleModule(), spare)
		c := Copy(m)
		wantApart(t, "written into the copy", &c, &m)
		wantApart(t, "written into what was copied", &m, &c)
		other := Copy(m)
		wantApart(t, "written into one of two copies", &c, &other)
		if !alike(m, sampleModule()) || !alike(c, sampleModule()) || !alike(other, sampleModule()) {
			t.Error("P3.4: a copy does not stay the same")
		}
	}
}

// TestCopyPartsListsThatWereShared: two lists of one memory are two in the copy.
func TestCopyPartsListsThatWereShared(t *testing.T) {
	c := Copy(copied()["lists that are shared"])
	c.Funcs[0].Blocks[0].Ins[0].Args[0] = 9
	c.Tables[1].Funcs = append(c.Tables[1].Funcs, 8)
	want := clone(copied()["lists that are shared"], 0)
	want.Funcs[0].Blocks[0].Ins[0].Args[0] = 9
	want.Tables[1].Funcs = []int{2, 8}
	if !alike(c, want) {
		t.Errorf("P0.4: two lists of a copy share memory: %+v", c)
	}
}
