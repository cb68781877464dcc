package sem

import (
	"fmt"
	"math"
	"reflect"
	"slices"
	"strconv"
	"strings"
	"testing"

	"planish/api"
	"planish/text"
)

// plenty is more fuel than any run of the tests takes that ends.
const plenty = 100000

// parsed gives the module of a text, whose lines may also be parted by semicolons.
func parsed(t *testing.T, s string) api.Module {
	t.Helper()
	m, at, e := text.Parse(strings.ReplaceAll(s, ";", "\n"))
	if e != api.OK {
		t.Fatalf("the test has a text that is no module: %d at %d: %q", e, at, s)
	}
	return m
}

// told writes a run down, with all its fields.
func told(r api.Run) string {
	s := "kind " + strconv.Itoa(r.Kind)
	switch r.Kind {
	case api.Returned:
		s = "returned"
	case api.Trapped:
		s = "trapped"
	case api.Runs:
		s = "runs"
	}
	if r.Trap != 0 {
		s += " by " + strconv.Itoa(r.Trap)
	}
	if r.Value != 0 {
		s += " " + strconv.FormatInt(r.Value, 10)
	}
	s += " in " + strconv.Itoa(r.Steps)
	for _, e := range r.Trace {
		s += fmt.Sprintf(", %s%v %d", e.Name, e.Args, e.Answer)
	}
	return s
}

// short keeps what a test tells within bounds.
func short(thing any) string {
	s := fmt.Sprint(thing)
	return s[:min(len(s), 600)]
}

// running is a module with all that it is run with.
type running struct {
	m      api.Module
	name   string
	args   []int64
	script []int64
}

// started gives the machine.
func (r running) started(t *testing.T) *Machine {
	t.Helper()
	x, e := Start(r.m, r.name, r.args, r.script)
	if x == nil || e != api.OK {
		t.Fatalf("P11.1: Start of %q with %v: %d", r.name, r.args, e)
	}
	return x
}

// with tells how it stands behind so many steps.
func (r running) with(t *testing.T, fuel int) api.Run {
	t.Helper()
	run, e := Run(r.m, r.name, r.args, r.script, fuel)
	if e != api.OK {
		t.Fatalf("P11.3: Run of %q with %v and fuel %d: %d", r.name, r.args, fuel, e)
	}
	return run
}

// wantTold asks that a run of f is told so, and that it is the same step by step, and at each fuel on the way.
func wantTold(t *testing.T, what, source string, args, script []int64, want string) {
	t.Helper()
	r := running{parsed(t, source), "f", args, script}
	run := r.with(t, plenty)
	if told(run) != want {
		t.Errorf("P11.2: %s: of %v it is told %s, not %s", what, args, short(told(run)), short(want))
		return
	}
	wantSteps(t, what, r, min(run.Steps, 60))
}

// wantSteps holds the first so many steps of a machine against Run at each fuel.
func wantSteps(t *testing.T, what string, r running, steps int) {
	t.Helper()
	x := r.started(t)
	for fuel := 0; fuel <= steps; fuel++ {
		standing, run := x.Told(), r.with(t, fuel)
		if told(standing) != told(run) {
			t.Fatalf("P11.3: %s: behind %d Steps %s, but with that fuel %s", what, fuel, short(told(standing)), short(told(run)))
		}
		if (x.Depth() > 0) != (standing.Kind == api.Runs) || x.Depth() > api.MaxDepth {
			t.Fatalf("P11.3: %s: Depth behind %d Steps is %d, where it is told %s", what, fuel, x.Depth(), short(told(standing)))
		}
		if x.Step() != (standing.Kind == api.Runs) {
			t.Fatalf("P11.3: %s: Step behind %d Steps is %v", what, fuel, standing.Kind != api.Runs)
		}
	}
}

// wantNoStart asks that Start and Run tell that error and nothing else, at fuels that may and may not be.
func wantNoStart(t *testing.T, what string, m api.Module, name string, args []int64, want api.Errno) {
	t.Helper()
	if x, e := Start(m, name, args, nil); x != nil || e != want {
		t.Errorf("P11.1: %s: Start: %v, %d, not nil and %d", what, x != nil, e, want)
	}
	for _, fuel := range []int{0, 1, api.MaxFuel, -1, api.MaxFuel + 1, math.MinInt, math.MaxInt} {
		run, e := Run(m, name, args, nil, fuel)
		if e != want || !reflect.DeepEqual(run, api.Run{}) {
			t.Errorf("P11.3: %s: Run with fuel %d: %s, %d, not %d and nothing", what, fuel, short(told(run)), e, want)
		}
	}
}

// edgeNumbers are at the ends of int64, and around what could be taken for nothing.
func edgeNumbers() []int64 {
	return []int64{
		math.MinInt64, math.MinInt64 + 1, -1 << 62, -1 << 32, -1<<31 - 1, -65, -64, -63, -8, -7, -3, -2, -1, 0, 1, 2, 3, 7, 8,
		62, 63, 64, 65, 127, 128, 1 << 31, 1<<32 + 1, 1 << 62, math.MaxInt64 - 1, math.MaxInt64,
	}
}

// spared copies all of a thing; each list with so much room behind its length, in which stands what no module of the
// tests has.
func spared[T any](thing T, room int) T {
	return sparedValue(reflect.ValueOf(thing), room).Interface().(T)
}

func sparedValue(v reflect.Value, room int) reflect.Value {
	switch v.Kind() {
	case reflect.Struct:
		made := reflect.New(v.Type()).Elem()
		for i := range v.NumField() {
			made.Field(i).Set(sparedValue(v.Field(i), room))
		}
		return made
	case reflect.Slice:
		made := reflect.MakeSlice(v.Type(), v.Len()+room, v.Len()+room)
		for i := range made.Len() {
			if i < v.Len() {
				made.Index(i).Set(sparedValue(v.Index(i), room))
			} else {
				scrawl(made.Index(i))
			}
		}
		return made.Slice(0, v.Len())
	}
	return v
}

// scrawl writes something into a place, and into all that hangs on it.
func scrawl(v reflect.Value) {
	switch v.Kind() {
	case reflect.Struct:
		for i := range v.NumField() {
			scrawl(v.Field(i))
		}
	case reflect.Slice:
		v.Set(reflect.MakeSlice(v.Type(), 1, 1))
		scrawl(v.Index(0))
	case reflect.Int, reflect.Int64:
		v.SetInt(7777)
	case reflect.String:
		v.SetString("scrawl")
	case reflect.Bool:
		v.SetBool(true)
	}
}

// scrawlOver writes over all the memory of a list or of what hangs on a struct, also behind the lengths of its lists.
func scrawlOver(v reflect.Value) {
	switch v.Kind() {
	case reflect.Struct:
		for i := range v.NumField() {
			scrawlOver(v.Field(i))
		}
	case reflect.Slice:
		for i := range v.Cap() {
			place := v.Slice(0, v.Cap()).Index(i)
			scrawlOver(place)
			scrawl(place)
		}
	}
}

// memory is a copy of all of a thing, with what lies behind the length of its lists.
func memory[T any](thing T) T {
	return memoryOf(reflect.ValueOf(thing)).Interface().(T)
}

func memoryOf(v reflect.Value) reflect.Value {
	switch v.Kind() {
	case reflect.Struct:
		made := reflect.New(v.Type()).Elem()
		for i := range v.NumField() {
			made.Field(i).Set(memoryOf(v.Field(i)))
		}
		return made
	case reflect.Slice:
		made := reflect.MakeSlice(v.Type(), v.Cap(), v.Cap())
		for i := range v.Cap() {
			made.Index(i).Set(memoryOf(v.Slice(0, v.Cap()).Index(i)))
		}
		return made
	}
	return v
}

// space is the memory of a list, with what lies behind its length.
type space struct {
	what       string
	begin, end uintptr
}

func spacesOf(what string, v reflect.Value) []space {
	var spaces []space
	switch v.Kind() {
	case reflect.Struct:
		for i := range v.NumField() {
			spaces = append(spaces, spacesOf(what+"."+v.Type().Field(i).Name, v.Field(i))...)
		}
	case reflect.Slice:
		if v.Cap() > 0 {
			begin := v.Pointer()
			spaces = append(spaces, space{what, begin, begin + uintptr(v.Cap())*v.Type().Elem().Size()})
		}
		for i := range v.Len() {
			spaces = append(spaces, spacesOf(what+"["+strconv.Itoa(i)+"]", v.Index(i))...)
		}
	}
	return spaces
}

// wantApart asks that no two lists of all that is given lie in one memory.
func wantApart(t *testing.T, things ...any) {
	t.Helper()
	var all []space
	for i, thing := range things {
		all = append(all, spacesOf("thing "+strconv.Itoa(i), reflect.ValueOf(thing))...)
	}
	slices.SortFunc(all, func(a, b space) int { return int(a.begin) - int(b.begin) })
	for i := 1; i < len(all); i++ {
		if all[i-1].end > all[i].begin {
			t.Errorf("P0.4: %s shares memory with %s", all[i-1].what, all[i].what)
		}
	}
}
