package sem

import (
	"fmt"
	"reflect"
	"strings"
	"testing"

	"planish/api"
	"planish/thrown"
)

// What stands in ^0 costs so many steps, with the ret behind it.
func TestWhatCosts(t *testing.T) {
	given := "global c 4 5;extern e i64;table t g;out f i64 i64 i1;^0;%3 ptr = glo c;%4 fun = fun g;"
	functions := ";ret %1;func g none;^0;ret;func h i64 i64;^0;ret %1"
	for ins, cost := range map[string]int{
		"%5 i64 = num 1": 0, "%5 i1 = num 0": 0, "%5 fun = fun h": 0, "%5 ptr = glo c": 0,
		"%5 i64 = num 1;%6 fun = fun f;%7 ptr = glo c;%8 i64 = num 2;%9 i1 = num 1": 0,
		"%5 i64 = add %1 %1": 1, "%5 i64 = sub %1 %1": 1, "%5 i64 = mul %1 %1": 1, "%5 i64 = div %1 %1": 1, "%5 i64 = rem %1 %1": 1,
		"%5 i64 = and %1 %1": 1, "%5 i64 = or %1 %1": 1, "%5 i64 = xor %1 %1": 1, "%5 i64 = shl %1 %1": 1, "%5 i64 = shr %1 %1": 1,
		"%5 i1 = eq %1 %1": 1, "%5 i1 = lt %1 %1": 1, "%5 i1 = not %2": 1, "%5 i64 = sel %2 %1 %1": 1, "%5 ptr = sel %2 %3 %3": 1,
		"%5 ptr = room 3": 1, "%5 ptr = at %3 %1": 1, "%5 i64 = load %3": 1, "store %3 %1": 1, "%5 i64 = ext e": 1,
		"%5 i64 = num 0;%6 fun = tab t %5": 1, "call g": 2, "via %4": 2, "%5 i64 = call h %1": 2, "%5 fun = fun h;%6 i64 = via %5 %1": 2,
		"jump ^1;^1": 1, "jump ^1;^1;%5 i64 = phi ^0 %1": 1, "jump ^1;^1;%5 i64 = phi ^0 %1;%6 i1 = phi ^0 %2;%7 ptr = phi ^0 %3;%8 fun = phi ^0 %4": 1,
		"jump ^1;^1;%5 i64 = phi ^0 %1;%6 i64 = num 7;%7 ptr = glo c;%8 fun = fun g": 1,
		"jump ^1;^1;%5 i64 = num 7;jump ^2;^2;%6 i64 = phi ^1 %5;%7 ptr = glo c":     2, "call g;%5 i64 = num 1;call g;%6 fun = fun g;via %6": 6,
	} {
		source := given + ins + functions
		run := running{parsed(t, source), "f", []int64{1, 0}, nil}.with(t, plenty)
		if run.Kind != api.Returned || run.Steps != cost+1 {
			t.Errorf("P11.3: %s, and a Ret: %s, not %d steps", ins, told(run), cost+1)
		}
		wantSteps(t, ins, running{parsed(t, source), "f", []int64{1, 0}, nil}, cost+1)
	}
	wantTold(t, "a Br", given+"br %2 ^1 ^2;^1;jump ^2;^2"+functions, []int64{1, 0}, nil, "returned 1 in 2")
	wantTold(t, "a Br and a Jump", given+"br %2 ^1 ^2;^1;jump ^2;^2"+functions, []int64{1, 1}, nil, "returned 1 in 3")
}

// What traps is a step, and the last one.
func TestTrapsCost(t *testing.T) {
	for source, want := range map[string]string{
		"out f i64 i64;^0;%2 i64 = div %1 %1;ret %2":                                                "trapped by 1 in 1",
		"out f i64 i64;^0;%2 i64 = rem %1 %1;ret %2":                                                "trapped by 1 in 1",
		"out f i64 i64;^0;%2 ptr = room 1;%3 i64 = num 1;%4 ptr = at %2 %3;%5 i64 = load %4;ret %5": "trapped by 2 in 3",
		"out f i64 i64;^0;%2 ptr = room 1;%3 i64 = num -1;%4 ptr = at %2 %3;store %4 %1;ret %1":     "trapped by 2 in 3",
		"table t -;out f i64 i64;^0;%2 fun = tab t %1;ret %1":                                       "trapped by 3 in 1",
		"out f i64 i64;^0;%2 fun = fun f;via %2;ret %1":                                             "trapped by 4 in 1",
		"out f i64 i64;^0;stop":                                                                     "trapped by 5 in 1",
		"out f i64 i64;^0;%2 i64 = call f %1;ret %2":                                                "trapped by 6 in 20",
	} {
		wantTold(t, "a trap", source, []int64{0}, nil, want)
		// With a step less it has not come yet.
		r := running{parsed(t, source), "f", []int64{0}, nil}
		all := r.with(t, plenty)
		less := r.with(t, all.Steps-1)
		if less.Kind != api.Runs || less.Steps != all.Steps-1 || less.Trap != 0 {
			t.Errorf("P11.3: one step ahead of %s: %s", want, told(less))
		}
	}
}

// How a machine stands behind each step, and how many frames there are.
func TestStepByStep(t *testing.T) {
	m := parsed(t, "extern e i64 i64;global c 7;out f i64 i64;^0;%2 i64 = num 2;%3 fun = fun g;%4 i64 = call g %1 %2;%5 ptr = glo c;%6 i64 = load %5;jump ^1;"+
		"^1;%7 i64 = phi ^0 %4;%8 i64 = num 3;%9 i64 = via %3 %7 %6;ret %9;"+
		"func g i64 i64 i64;^0;%3 i64 = call h %1;%4 i64 = num 5;%5 i64 = add %3 %2;ret %5;"+
		"func h i64 i64;^0;%2 i64 = ext e %1;ret %2")
	x := running{m, "f", []int64{4}, []int64{10, 20}}.started(t)
	for k, want := range []struct {
		told  string
		depth int
	}{
		{"runs in 0", 1},
		{"runs in 1", 2}, // call g
		{"runs in 2", 3}, // call h
		{"runs in 3, e[4] 10", 3},
		{"runs in 4, e[4] 10", 2}, // h's ret
		{"runs in 5, e[4] 10", 2}, // add
		{"runs in 6, e[4] 10", 1}, // g's ret
		{"runs in 7, e[4] 10", 1}, // load
		{"runs in 8, e[4] 10", 1}, // jump
		{"runs in 9, e[4] 10", 2}, // via
		{"runs in 10, e[4] 10", 3},
		{"runs in 11, e[4] 10, e[12] 20", 3},
		{"runs in 12, e[4] 10, e[12] 20", 2},
		{"runs in 13, e[4] 10, e[12] 20", 2},
		{"runs in 14, e[4] 10, e[12] 20", 1},
		{"returned 27 in 15, e[4] 10, e[12] 20", 0},
	} {
		if k > 0 && !x.Step() {
			t.Fatalf("P11.3: Step %d is false", k)
		}
		if told(x.Told()) != want.told || x.Depth() != want.depth {
			t.Fatalf("P11.3: behind %d Steps: %s, Depth %d, not %s, %d", k, told(x.Told()), x.Depth(), want.told, want.depth)
		}
	}
	wantEnded(t, x, "returned 27 in 15, e[4] 10, e[12] 20")
}

// wantEnded asks that a machine has ended so, and stays so.
func wantEnded(t *testing.T, x *Machine, want string) {
	t.Helper()
	for range 3 {
		if told(x.Told()) != want || x.Depth() != 0 {
			t.Errorf("P11.3: at the end: %s, Depth %d, not %s", told(x.Told()), x.Depth(), want)
		}
		if x.Step() {
			t.Errorf("P11.3: a Step behind the end of %s is true", want)
		}
	}
}

func TestBehindTheEnd(t *testing.T) {
	for source, want := range map[string]string{
		"extern e i64 i64;out f i64 i64;^0;%2 i64 = ext e %1;%3 i64 = num 8;ret %3":                   "returned 8 in 2, e[4] 6",
		"extern e i64 i64;out f i64 i64;^0;%2 i64 = ext e %1;ret %2":                                  "returned 6 in 2, e[4] 6",
		"extern e i64 i64;out f none i64;^0;%2 i64 = ext e %1;ret":                                    "returned in 2, e[4] 6",
		"extern e i64 i64;out f i64 i64;^0;%2 i64 = ext e %1;stop":                                    "trapped by 5 in 2, e[4] 6",
		"extern e i64 i64;out f i64 i64;^0;%2 i64 = ext e %1;call g;ret %2;func g none;^0;stop":       "trapped by 5 in 3, e[4] 6",
		"extern e i64 i64;out f i64 i64;^0;%2 i64 = ext e %1;call g;ret %2;func g none;^0;call g;ret": "trapped by 6 in 21, e[4] 6",
	} {
		x := running{parsed(t, source), "f", []int64{4}, []int64{6, 7, 8}}.started(t)
		for x.Step() {
			if x.Told().Kind == api.Runs && x.Depth() == 0 {
				t.Errorf("P11.3: a machine that runs has no frame: %s", source)
			}
		}
		wantEnded(t, x, want)
	}
}

// A run that does not end stops at its fuel.
func TestEndless(t *testing.T) {
	for _, c := range []struct {
		what, source string
		most         int
	}{
		{"a block that jumps to itself", "out f none;^0;jump ^1;^1;jump ^1", api.MaxFuel},
		{"with numbers and Phis", "out f none;^0;%1 i64 = num 3;jump ^1;^1;%2 i64 = phi ^0 %1 ^1 %3;%3 i64 = num 4;%4 fun = fun f;jump ^1", api.MaxFuel},
		{"with calls", "out f none;^0;jump ^1;^1;call g;jump ^1;func g none;^0;ret", api.MaxFuel},
		{"with rooms", "out f none;^0;jump ^1;^1;%1 ptr = room 16;%2 ptr = room 16;%3 i64 = load %1;store %2 %3;jump ^1", 1 << 20},
	} {
		r := running{parsed(t, c.source), "f", nil, nil}
		for _, fuel := range []int{0, 1, 2, 3, 1000, 65537, c.most - 1, c.most} {
			if run := r.with(t, fuel); told(run) != fmt.Sprintf("runs in %d", fuel) {
				t.Errorf("P11.3: %s, with fuel %d: %s", c.what, fuel, told(run))
			}
		}
	}
	r := running{parsed(t, "extern e i64 i64;out f none;^0;%1 i64 = num 3;jump ^1;^1;%2 i64 = phi ^0 %1 ^1 %3;%3 i64 = ext e %2;jump ^1"), "f", nil, []int64{5, 6}}
	for fuel, want := range []string{"", "", ", e[3] 5", ", e[3] 5", ", e[3] 5, e[5] 6", ", e[3] 5, e[5] 6", ", e[3] 5, e[5] 6, e[6] 0"} {
		if run := r.with(t, fuel); told(run) != fmt.Sprintf("runs in %d%s", fuel, want) {
			t.Errorf("P11.3: events for ever, with fuel %d: %s", fuel, told(run))
		}
	}
	if run := r.with(t, 200001); len(run.Trace) != 100000 || run.Steps != 200001 {
		t.Errorf("P11.3: events for ever, with fuel 200001: %d events, %d steps", len(run.Trace), run.Steps)
	}
}

// A run of exactly as many steps as there may be fuel is whole, one of a step more is not.
func TestJustEnoughFuel(t *testing.T) {
	// Each round takes three steps, ^0 and ^2 one each, and what is done more in ^2.
	rounds := int64(api.MaxFuel-4) / 3
	source := "out f i64 i64;^0;%2 i64 = num 1;jump ^1;^1;%3 i64 = phi ^0 %1 ^1 %4;%4 i64 = sub %3 %2;%5 i1 = lt %4 %2;br %5 ^2 ^1;^2;%6 i64 = add %3 %2;%7 i64 = add %6 %2;ret %7"
	r := running{parsed(t, source), "f", []int64{rounds}, nil}
	for fuel, want := range map[int]string{
		api.MaxFuel - 1: "runs in 16777215", api.MaxFuel: "returned 3 in 16777216",
	} {
		if run := r.with(t, fuel); told(run) != want {
			t.Errorf("P11.3: as many steps as may be, with fuel %d: %s, not %s", fuel, told(run), want)
		}
	}
	r.m = parsed(t, strings.Replace(source, "ret %7", "%8 i64 = add %7 %2;ret %8", 1))
	if run := r.with(t, api.MaxFuel); told(run) != "runs in 16777216" {
		t.Errorf("P11.3: a step more than may be: %s", told(run))
	}
}

// events writes the Trace of a run down.
func events(r api.Run) string { return told(api.Run{Trace: r.Trace}) }

// More fuel begins as less does, and what ended stays so (P11.5).
func TestMoreFuel(t *testing.T) {
	for seed := range 300 {
		d := thrown.Dice(seed)
		m := d.Module()
		r := running{m, m.Funcs[0].Name, d.Args(m.Funcs[0]), d.Numbers(5)}
		ahead := r.with(t, 0)
		for fuel := 1; fuel <= 80; fuel++ {
			run := r.with(t, fuel)
			what := fmt.Sprintf("module %d with fuel %d: %s, behind %s", seed, fuel, short(told(run)), short(told(ahead)))
			if ahead.Kind != api.Runs && !reflect.DeepEqual(run, ahead) {
				t.Fatalf("P11.5: %s", what)
			}
			if ahead.Kind == api.Runs && run.Steps != fuel || !strings.HasPrefix(events(run), events(ahead)) {
				t.Fatalf("P11.5: %s", what)
			}
			ahead = run
		}
	}
}
