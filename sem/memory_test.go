package sem

import (
	"reflect"
	"testing"

	"planish/api"
	"planish/thrown"
)

// keptText takes from each part of a module while it runs: externs, globals, tables, functions and all of their lists.
const keptText = `extern a i64 i64 i1
extern b i1
global g 3 4
global h 5
table t - q p
out f i64 i64 i1
^0
%3 i64 = num 1
%4 ptr = glo g
%5 ptr = at %4 %3
%6 i64 = load %5
%7 fun = tab t %3
%8 i64 = via %7 %6 %1
%9 i64 = ext a %8 %2
br %2 ^1 ^2
^1
%10 i1 = ext b
jump ^3
^2
%11 i64 = num 2
%12 fun = tab t %11
jump ^3
^3
%13 i64 = phi ^1 %9 ^2 %11
%14 i1 = phi ^1 %10 ^2 %2
%15 i64 = call q %13 %9
%16 ptr = glo h
%17 i64 = load %16
store %4 %17
%18 i64 = load %4
%19 i64 = add %15 %18
%20 i64 = sel %14 %19 %6
ret %20
func p i64 i64 i64
^0
%3 ptr = room 2
store %3 %1
%4 i64 = load %3
%5 i64 = mul %4 %2
ret %5
func q i64 i64 i64
^0
%3 fun = fun p
%4 i64 = via %3 %2 %1
ret %4
`

// What is handed in is not changed: neither it, nor what lies behind its length.
func TestHandedInIsNotChanged(t *testing.T) {
	for room := range 3 {
		m := spared(parsed(t, keptText), room)
		args, script := spared([]int64{7, 1}, room), spared([]int64{9, 3, 8}, room)
		wantM, wantArgs, wantScript := memory(m), memory(args), memory(script)
		run, e := Run(m, "f", args, script, plenty)
		if told(run) != "returned 86 in 29, a[28 1] 9, b[] 1" || e != api.OK {
			t.Errorf("P11.2: %s, %d", told(run), e)
		}
		x := running{m, "f", args, script}.started(t)
		for x.Step() {
			x.Told()
		}
		if !reflect.DeepEqual(memory(m), wantM) || !reflect.DeepEqual(memory(args), wantArgs) || !reflect.DeepEqual(memory(script), wantScript) {
			t.Errorf("P0.4: with room for %d behind each list: what was handed in is changed", room)
		}
	}
}

// What is handed in is not kept: it is written over behind each number of steps, and the machine goes on.
func TestHandedInIsNotKept(t *testing.T) {
	for _, args := range [][]int64{{7, 1}, {7, 0}} {
		want := told(running{parsed(t, keptText), "f", args, []int64{9, 3, 8}}.with(t, plenty))
		for steps := range 31 {
			r := running{spared(parsed(t, keptText), 2), "f", spared(args, 2), spared([]int64{9, 3, 8}, 2)}
			x := r.started(t)
			for range steps {
				x.Step()
			}
			scrawlOver(reflect.ValueOf(r.m))
			scrawlOver(reflect.ValueOf(r.args))
			scrawlOver(reflect.ValueOf(r.script))
			for x.Step() {
			}
			if told(x.Told()) != want {
				t.Errorf("P0.4: written over behind %d steps: %s, not %s", steps, told(x.Told()), want)
			}
		}
	}
}

// The same of modules that are thrown.
func TestThrownIsNotKept(t *testing.T) {
	for seed := range 400 {
		d := thrown.Dice(seed)
		r := running{m: d.Module(), name: "fun0"}
		r.args, r.script = d.Args(r.m.Funcs[0]), d.Numbers(6)
		want := told(r.with(t, 300))
		steps := d.Below(8)
		r = running{spared(r.m, 1), r.name, spared(r.args, 1), spared(r.script, 1)}
		x := r.started(t)
		for range steps {
			x.Step()
		}
		scrawlOver(reflect.ValueOf(r.m))
		scrawlOver(reflect.ValueOf(r.args))
		scrawlOver(reflect.ValueOf(r.script))
		for range 300 - steps {
			x.Step()
		}
		if told(x.Told()) != want {
			t.Fatalf("P0.4: module %d, written over behind %d steps: %s, not %s", seed, steps, short(told(x.Told())), short(want))
		}
	}
}

// nil and the empty list are the same.
func TestNilAndEmpty(t *testing.T) {
	for _, empty := range [][]int64{nil, {}, []int64{5, 6}[:0]} {
		run, e := Run(parsed(t, "extern e i64;out f i64;^0;%1 i64 = ext e;ret %1"), "f", empty, empty, 2)
		if told(run) != "returned in 2, e[] 0" || e != api.OK {
			t.Errorf("P0.4: %v for args and script: %s, %d", empty, told(run), e)
		}
	}
}

// Each Trace handed out is a list of its own, with lists of its own.
func TestTraceIsHandedOutAnew(t *testing.T) {
	source := "extern e i64 i64 i64;extern n none;out f i64 i64;^0;%2 i64 = num 7;%3 i64 = ext e %1 %2;ext n;%4 i64 = ext e %3 %1;%5 i64 = ext e %2 %2;ext n;ret %5"
	r := running{parsed(t, source), "f", []int64{4}, []int64{10, 20, 30}}
	x := r.started(t)
	want := []string{
		"runs in 0", "runs in 1, e[4 7] 10", "runs in 2, e[4 7] 10, n[] 0", "runs in 3, e[4 7] 10, n[] 0, e[10 4] 20",
		"runs in 4, e[4 7] 10, n[] 0, e[10 4] 20, e[7 7] 30", "runs in 5, e[4 7] 10, n[] 0, e[10 4] 20, e[7 7] 30, n[] 0",
		"returned 30 in 6, e[4 7] 10, n[] 0, e[10 4] 20, e[7 7] 30, n[] 0",
	}
	var all []any
	for k := range want {
		first, second := x.Told(), x.Told()
		all = append(all, first, second, r.with(t, k))
		wantApart(t, all...)
		for _, run := range []api.Run{first, second} {
			if told(run) != want[k] {
				t.Fatalf("P0.4: behind %d steps, the Traces handed out written over: %s, not %s", k, told(run), want[k])
			}
			// What is appended to a list must not be seen in another one either.
			for l := range run.Trace {
				run.Trace[l].Args = append(run.Trace[l].Args, 99, 98)
			}
			run.Trace = append(run.Trace, api.Event{Name: "more"}, api.Event{Name: "more"})
			scrawlOver(reflect.ValueOf(run))
		}
		x.Step()
	}
	wantEnded(t, x, want[6])
}

// Two machines of one module, args and script go on each for itself.
func TestTwoMachines(t *testing.T) {
	r := running{parsed(t, keptText), "f", []int64{7, 1}, []int64{9, 3, 8}}
	x, y, z := r.started(t), r.started(t), r.started(t)
	for steps := 0; ; steps++ {
		if steps%2 == 0 && told(x.Told()) != told(r.with(t, steps)) || told(y.Told()) != told(r.with(t, steps/2)) {
			t.Fatalf("P0.5: two machines, behind %d and %d steps: %s; %s", steps, steps/2, told(x.Told()), told(y.Told()))
		}
		if steps%2 == 1 {
			y.Step()
		}
		if !x.Step() && steps > 60 {
			break
		}
	}
	if told(z.Told()) != "runs in 0" || z.Depth() != 1 {
		t.Errorf("P0.5: a machine beside others: %s", told(z.Told()))
	}
}
