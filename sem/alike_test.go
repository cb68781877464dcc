package sem

import (
	"fmt"
	"math"
	"reflect"
	"testing"

	"planish/api"
)

// traceOf gives an event of e for each number, which is its Arg and its answer.
func traceOf(numbers ...int64) []api.Event {
	var all []api.Event
	for _, n := range numbers {
		all = append(all, api.Event{Name: "e", Args: []int64{n}, Answer: n})
	}
	return all
}

func returned(v int64, steps int, trace ...int64) api.Run {
	return api.Run{Kind: api.Returned, Value: v, Steps: steps, Trace: traceOf(trace...)}
}

func trapped(trap, steps int, trace ...int64) api.Run {
	return api.Run{Kind: api.Trapped, Trap: trap, Steps: steps, Trace: traceOf(trace...)}
}

func runs(steps int, trace ...int64) api.Run {
	return api.Run{Kind: api.Runs, Steps: steps, Trace: traceOf(trace...)}
}

func wantAlike(t *testing.T, what string, a, b api.Run, bound int, want bool) {
	t.Helper()
	if Alike(a, b, bound) != want {
		t.Errorf("P11.4: %s: Alike(%s; %s; %d) is not %v", what, short(told(a)), short(told(b)), bound, want)
	}
}

// Each Kind with each Kind, with Traces that are the same.
func TestAlikeOfKinds(t *testing.T) {
	const (
		returns = iota
		divides
		tooDeep
		goesOn
		isNone
	)
	kinds := []api.Run{returned(4, 10, 1), trapped(api.TrapDiv, 10, 1), trapped(api.TrapDepth, 10, 1), runs(10, 1), {Kind: 9, Steps: 10, Trace: traceOf(1)}}
	want := map[int]map[int]bool{
		returns: {returns: true},
		divides: {divides: true},
		tooDeep: {returns: true, divides: true, tooDeep: true, goesOn: true, isNone: true},
		goesOn:  {returns: true, divides: true, tooDeep: true, goesOn: true, isNone: true},
		isNone:  {isNone: true},
	}
	for k, a := range kinds {
		for l, b := range kinds {
			wantAlike(t, "Kinds", a, b, 5, want[k][l])
			// With a bound above its steps, one that runs may still end as it should.
			wantAlike(t, "Kinds, within the bound", a, b, 11, want[k][l] || l == goesOn)
		}
	}
}

func TestAlikeOfTraces(t *testing.T) {
	change := func(change func(trace []api.Event) []api.Event) api.Run {
		r := returned(4, 10, 1, 2, 3)
		r.Trace = change(r.Trace)
		return r
	}
	whole := returned(4, 10, 1, 2, 3)
	same := change(func(l []api.Event) []api.Event { return l })
	wantAlike(t, "the same", whole, same, 0, true)
	for k := range 3 {
		for what, other := range map[string]api.Run{
			"another name":   change(func(l []api.Event) []api.Event { l[k].Name = "f"; return l }),
			"a longer name":  change(func(l []api.Event) []api.Event { l[k].Name = "ee"; return l }),
			"no name":        change(func(l []api.Event) []api.Event { l[k].Name = ""; return l }),
			"another Arg":    change(func(l []api.Event) []api.Event { l[k].Args[0]++; return l }),
			"one Arg more":   change(func(l []api.Event) []api.Event { l[k].Args = append(l[k].Args, 0); return l }),
			"no Args":        change(func(l []api.Event) []api.Event { l[k].Args = nil; return l }),
			"another answer": change(func(l []api.Event) []api.Event { l[k].Answer = -l[k].Answer; return l }),
			"no answer":      change(func(l []api.Event) []api.Event { l[k].Answer = 0; return l }),
		} {
			for _, kind := range []int{api.Returned, api.Runs, 0} {
				a, b := whole, other
				a.Kind, b.Kind = kind, kind
				wantAlike(t, what, a, b, 100, false)
				wantAlike(t, what, b, a, 100, false)
				deep := trapped(api.TrapDepth, 10)
				deep.Trace = whole.Trace
				wantAlike(t, what+", too deep", deep, b, 100, false)
				b.Trace = b.Trace[:k]
				// Ahead of where they part one is the beginning of the other.
				wantAlike(t, what+", cut off", deep, b, 100, true)
			}
		}
	}
	for k := range 3 {
		part := whole
		part.Trace = whole.Trace[:k]
		wantAlike(t, "both ended, b's Trace is the beginning", whole, part, 100, false)
		wantAlike(t, "both ended, a's Trace is the beginning", part, whole, 100, false)
		part.Kind = api.Runs
		wantAlike(t, "a ended, b's Trace is the beginning", whole, part, 11, true)
		wantAlike(t, "a runs, its Trace is the beginning", part, whole, 0, true)
		ended, going := part, whole
		ended.Kind, going.Kind = api.Returned, api.Runs
		wantAlike(t, "a ended, its Trace is the beginning", ended, going, 11, true)
		wantAlike(t, "a runs, b's Trace is the beginning", going, ended, 0, true)
	}
}

func TestAlikeOfEmptyTraces(t *testing.T) {
	none, empty := api.Run{Kind: api.Returned}, api.Run{Kind: api.Returned, Trace: []api.Event{}}
	wantAlike(t, "nil and empty", none, empty, 0, true)
	wantAlike(t, "empty and nil", empty, none, 0, true)
	a := api.Run{Kind: api.Returned, Trace: []api.Event{{Name: "e"}, {Name: "e", Args: []int64{}}}}
	b := api.Run{Kind: api.Returned, Trace: []api.Event{{Name: "e", Args: []int64{}}, {Name: "e"}}}
	wantAlike(t, "Args nil and empty", a, b, 0, true)
}

func TestAlikeOfEnds(t *testing.T) {
	for _, v := range edgeNumbers() {
		for _, w := range edgeNumbers() {
			wantAlike(t, "Values", returned(v, 3), returned(w, 4), 0, v == w)
		}
	}
	for trap := -1; trap <= api.TrapDepth+1; trap++ {
		for other := -1; other <= api.TrapDepth+1; other++ {
			wantAlike(t, "Traps", trapped(trap, 3), trapped(other, 4), 0, trap == api.TrapDepth || trap == other)
		}
	}
	// Fields that say nothing of such a Kind are held against each other all the same.
	a, b := returned(4, 3), returned(4, 3)
	b.Trap = api.TrapDiv
	wantAlike(t, "a Trap of one that returned", a, b, 9, false)
	a.Trap = api.TrapDepth
	wantAlike(t, "a TrapDepth of one that returned", a, b, 9, false)
	b.Trap = api.TrapDepth
	wantAlike(t, "a TrapDepth of both that returned", a, b, 9, true)
	b.Value = 5
	wantAlike(t, "a TrapDepth of both that returned, with other Values", a, b, 9, false)
	c, d := trapped(api.TrapMem, 3), trapped(api.TrapMem, 3)
	d.Value = 1
	wantAlike(t, "a Value of one that trapped", c, d, 9, false)
	c.Trap, d.Trap = api.TrapDepth, api.TrapDepth
	wantAlike(t, "a Value of one that trapped too deep", c, d, 9, true)
	e, f := runs(3), runs(3)
	e.Trap, e.Value, f.Value = api.TrapDepth, 4, 5
	wantAlike(t, "a Value and a Trap of those that run", e, f, 0, true)
}

func TestAlikeOfBounds(t *testing.T) {
	for _, a := range []api.Run{returned(4, 10), trapped(api.TrapStop, 10), {Kind: 7, Steps: 10}, {Steps: 10}} {
		for _, steps := range []int{0, 1, 2, 9, 10, 11, 1000, math.MaxInt - 1, -1} {
			for _, bound := range []int{steps - 1, steps, steps + 1, 0, -1, math.MinInt, math.MaxInt} {
				wantAlike(t, "a ended", a, runs(steps), bound, steps < bound)
				wantAlike(t, "a runs", runs(10), runs(steps), bound, true)
				wantAlike(t, "a is too deep", trapped(api.TrapDepth, 10), runs(steps), bound, true)
				wantAlike(t, "a runs, b ended", runs(10), returned(4, steps), bound, true)
				same := a
				same.Steps = steps
				wantAlike(t, "both ended", a, same, bound, true)
			}
		}
	}
}

// inWords works P11.4 out clause by clause.
func inWords(a, b api.Run, bound int) bool {
	isDeep := func(r api.Run) bool { return r.Kind == api.Trapped && r.Trap == api.TrapDepth }
	isRunning := func(r api.Run) bool { return r.Kind == api.Runs }
	begins := func(a, b []api.Event) bool {
		if len(a) > len(b) {
			return false
		}
		for k := range a {
			if fmt.Sprint(a[k]) != fmt.Sprint(b[k]) {
				return false
			}
		}
		return true
	}
	clauses := []bool{
		begins(a.Trace, b.Trace) || begins(b.Trace, a.Trace),
		!(!isRunning(a) && !isRunning(b) && !isDeep(a)) ||
			a.Kind == b.Kind && a.Trap == b.Trap && a.Value == b.Value && begins(a.Trace, b.Trace) && begins(b.Trace, a.Trace),
		!(!isRunning(a) && !isDeep(a)) || !isRunning(b) || b.Steps < bound,
		!isDeep(b) || isRunning(a) || isDeep(a),
	}
	for _, is := range clauses {
		if !is {
			return false
		}
	}
	return true
}

func TestAlikeInWords(t *testing.T) {
	var all []api.Run
	for _, kind := range []int{-1, 0, api.Returned, api.Trapped, api.Runs, 4} {
		for _, trap := range []int{0, api.TrapDiv, api.TrapDepth} {
			for v := range int64(2) {
				for _, trace := range [][]int64{nil, {1}, {2}, {1, 1}} {
					all = append(all, api.Run{Kind: kind, Trap: trap, Value: v, Steps: 2, Trace: traceOf(trace...)})
				}
			}
		}
	}
	for _, a := range all {
		for _, b := range all {
			for bound := range 4 {
				wantAlike(t, "by its clauses", a, b, bound, inWords(a, b, bound))
			}
		}
	}
}

func TestAlikeLeavesAll(t *testing.T) {
	a, b := spared(returned(4, 3, 1, 2, 3), 2), spared(returned(4, 3, 1, 2), 2)
	wantA, wantB := memory(a), memory(b)
	wantAlike(t, "with spare room", a, b, 9, false)
	// What lies behind the length of a Trace or of Args is not looked at.
	wantAlike(t, "with other spare room", spared(returned(4, 3, 1, 2), 1), spared(returned(4, 3, 1, 2), 3), 9, true)
	c, d := returned(4, 3, 1, 2), returned(4, 3, 1, 2)
	c.Trace[0].Args, d.Trace[0].Args = []int64{1, 5}[:1], []int64{1, 6}[:1]
	c.Trace, d.Trace = append(c.Trace, traceOf(7)...)[:2], append(d.Trace, traceOf(8)...)[:2]
	wantAlike(t, "with something else behind", c, d, 9, true)
	if !reflect.DeepEqual(memory(a), wantA) || !reflect.DeepEqual(memory(b), wantB) {
		t.Error("P0.4: Alike has changed what was handed in")
	}
}
