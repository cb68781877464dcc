package thrown

import (
	"testing"

	"planish/api"
	"planish/ir"
	"planish/wf"
)

// Each module may be, and all that a module can have comes up.
func TestModules(t *testing.T) {
	ops, results, counts := map[int]int{}, map[int]int{}, map[string]int{}
	for seed := range 5000 {
		d := Dice(seed)
		m := d.Module()
		if e := wf.Check(m); e != api.OK {
			t.Fatalf("module %d: Check says %d", seed, e)
		}
		if !m.Funcs[0].Out {
			t.Fatalf("module %d: the first function is not Out", seed)
		}
		if len(m.Externs) == 0 {
			counts["no externs"]++
		}
		if len(m.Globals) == 0 {
			counts["no globals"]++
		}
		if len(m.Tables) == 0 {
			counts["no tables"]++
		}
		for _, f := range m.Funcs {
			results[f.Result]++
			if len(f.Params) == api.MaxParams {
				counts["many parameters"]++
			}
			if len(f.Blocks) > 4 {
				counts["many blocks"]++
			}
			for _, b := range f.Blocks {
				for _, i := range b.Ins {
					ops[i.Op]++
					if i.Op == api.Phi && len(i.Args) > 1 {
						counts["Phis of several"]++
					}
				}
			}
		}
	}
	for op := api.Num; op <= api.Stop; op++ {
		if ops[op] < 500 {
			t.Errorf("Op %d comes up %d times", op, ops[op])
		}
	}
	for typ := range api.Fun + 1 {
		if (results[typ] < 200) != (typ == api.Ptr) {
			t.Errorf("%d functions answer type %d", results[typ], typ)
		}
	}
	for _, what := range []string{"no externs", "no globals", "no tables", "many parameters", "many blocks", "Phis of several"} {
		if counts[what] < 100 {
			t.Errorf("%s: %d times", what, counts[what])
		}
	}
}

// The same dice give the same, and other ones something else.
func TestSameDice(t *testing.T) {
	for seed := range 200 {
		d, again, other := Dice(seed), Dice(seed), Dice(seed+1)
		if a, b := d.Module(), again.Module(); !ir.Same(a, b) || d != again {
			t.Errorf("the dice %d give two modules", seed)
		}
		if ir.Same(d.Module(), other.Module()) {
			t.Errorf("two dice give one module: %d", seed)
		}
	}
}

func TestArgs(t *testing.T) {
	d := Dice(1)
	f := api.Func{Params: []int{api.I1, api.I64, api.I1, api.I64}}
	bits, small := 0, 0
	for range 1000 {
		args := d.Args(f)
		if len(args) != 4 || args[0]>>1 != 0 || args[2]>>1 != 0 {
			t.Fatalf("args of I1, I64, I1, I64: %v", args)
		}
		bits += int(args[0] + args[2])
		if args[1] > -10 && args[1] < 10 {
			small++
		}
	}
	if bits < 700 || bits > 1300 || small < 500 || small > 990 {
		t.Errorf("of 1000 args: %d bits are 1, %d numbers are small", bits, small)
	}
	if len(d.Numbers(0)) != 0 || len(d.Numbers(7)) != 7 {
		t.Error("Numbers gives more or fewer than it is asked for")
	}
}
