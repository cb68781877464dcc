package text

import (
	"math"
	"reflect"
	"slices"
	"strconv"
	"strings"
	"testing"

	"planish/api"
	"planish/ir"
)

// sampleText has each line and each WORD, with as many words as they may have; some names are words that begin lines, too.
const sampleText = `extern none none
extern ask i1 i64
extern tell i64 i64 i1 i1 i64 i64
global global 0
global ends -9223372036854775808 9223372036854775807 -1 10
table one main
table gaps - hand - main main -
func hand fun ptr fun i64 i1
^0
%5 fun = fun main
br %4 ^1 ^2
^1
ret %5
^2
ret %2
out main i64 i64 i1
^0
%3 i64 = num -9223372036854775808
%4 i64 = num 9223372036854775807
%5 i1 = num 1
%6 ptr = glo ends
%7 ptr = room 16
%8 i64 = add %1 %3
%9 i64 = sub %8 %4
%10 i64 = mul %9 %1
%11 i64 = div %10 %1
%12 i64 = rem %11 %1
%13 i64 = and %12 %1
%14 i64 = or %13 %1
%15 i64 = xor %14 %1
%16 i64 = shl %15 %1
%17 i64 = shr %16 %1
%18 i1 = eq %17 %1
%19 i1 = lt %1 %17
%20 i1 = not %19
%21 i64 = sel %20 %17 %16
%22 ptr = at %7 %1
%23 i64 = load %22
store %6 %21
jump ^1
^1
%24 i64 = phi ^0 %23 ^2 %26
%25 i1 = phi ^0 %2 ^2 %30
br %25 ^2 ^3
^2
%26 i64 = add %24 %1
call plain
%27 i64 = call func %26
%28 fun = tab gaps %27
%29 i64 = via %28 %27 %20
via %28
%30 i1 = ext ask %29
ext none
%31 i64 = ext tell %29 %30 %20 %29 %1
jump ^1
^3
ret %24
func func i64 i64
^0
ret %1
out plain none
^0
ret
func halt i1
^0
stop
`

// sampleModule is what sampleText says.
func sampleModule() api.Module {
	const hand, main, function, plain = 0, 1, 2, 3
	return api.Module{
		Externs: []api.Extern{
			{Name: "none"}, {Name: "ask", Params: []int{api.I64}, Result: api.I1},
			{Name: "tell", Params: []int{api.I64, api.I1, api.I1, api.I64, api.I64}, Result: api.I64},
		},
		Globals: []api.Global{{Name: "global", Cells: []int64{0}}, {Name: "ends", Cells: []int64{math.MinInt64, math.MaxInt64, -1, 10}}},
		Tables:  []api.Table{{Name: "one", Funcs: []int{main}}, {Name: "gaps", Funcs: []int{-1, hand, -1, main, main, -1}}},
		Funcs: []api.Func{
			{Name: "hand", Params: []int{api.Ptr, api.Fun, api.I64, api.I1}, Result: api.Fun, Blocks: []api.Block{
				row(with(give(api.FunOf, api.Fun, 5), main, 0), br(4, 1, 2)), row(take(api.Ret, 5)), row(take(api.Ret, 2)),
			}},
			{Name: "main", Out: true, Params: []int{api.I64, api.I1}, Result: api.I64, Blocks: []api.Block{
				sampleNumbers(),
				row(phi(api.I64, 24, 0, 23, 2, 26), phi(api.I1, 25, 0, 2, 2, 30), br(25, 2, 3)),
				row(
					give(api.Add, api.I64, 26, 24, 1), with(take(api.Call), plain, 0), with(give(api.Call, api.I64, 27, 26), function, 0),
					with(give(api.Tab, api.Fun, 28, 27), 1, 0), give(api.Via, api.I64, 29, 28, 27, 20), take(api.Via, 28),
					with(give(api.Ext, api.I1, 30, 29), 1, 0), take(api.Ext), with(give(api.Ext, api.I64, 31, 29, 30, 20, 29, 1), 2, 0), jump(1)),
				row(take(api.Ret, 24)),
			}},
			{Name: "func", Params: []int{api.I64}, Result: api.I64, Blocks: []api.Block{row(take(api.Ret, 1))}},
			{Name: "plain", Out: true, Blocks: []api.Block{row(take(api.Ret))}},
			{Name: "halt", Result: api.I1, Blocks: []api.Block{row(take(api.Stop))}},
		},
	}
}

// sampleNumbers is the first block of main.
func sampleNumbers() api.Block {
	return row(
		with(give(api.Num, api.I64, 3), 0, math.MinInt64), with(give(api.Num, api.I64, 4), 0, math.MaxInt64), with(give(api.Num, api.I1, 5), 0, 1),
		with(give(api.GloOf, api.Ptr, 6), 1, 0), with(give(api.Room, api.Ptr, 7), 0, 16),
		give(api.Add, api.I64, 8, 1, 3), give(api.Sub, api.I64, 9, 8, 4), give(api.Mul, api.I64, 10, 9, 1), give(api.Div, api.I64, 11, 10, 1),
		give(api.Rem, api.I64, 12, 11, 1), give(api.And, api.I64, 13, 12, 1), give(api.Or, api.I64, 14, 13, 1), give(api.Xor, api.I64, 15, 14, 1),
		give(api.Shl, api.I64, 16, 15, 1), give(api.Shr, api.I64, 17, 16, 1),
		give(api.Eq, api.I1, 18, 17, 1), give(api.Lt, api.I1, 19, 1, 17), give(api.Not, api.I1, 20, 19), give(api.Sel, api.I64, 21, 20, 17, 16),
		give(api.At, api.Ptr, 22, 7, 1), give(api.Load, api.I64, 23, 22), take(api.Store, 6, 21), jump(1))
}

func row(list ...api.Ins) api.Block { return api.Block{Ins: list} }

func give(op, typ, to int, args ...int) api.Ins {
	return api.Ins{Op: op, Type: typ, To: to, Args: args}
}

func take(op int, args ...int) api.Ins { return api.Ins{Op: op, Args: args} }

func with(ins api.Ins, sym int, n int64) api.Ins {
	ins.Sym, ins.Num = sym, n
	return ins
}

func jump(to int) api.Ins { return api.Ins{Op: api.Jump, Into: []int{to}} }

func br(arg int, to ...int) api.Ins { return api.Ins{Op: api.Br, Args: []int{arg}, Into: to} }

// phi has entries of a block and a value each, as they are printed.
func phi(typ, to int, entries ...int) api.Ins {
	ins := give(api.Phi, typ, to)
	for i := 0; i+1 < len(entries); i += 2 {
		ins.Into = append(ins.Into, entries[i])
		ins.Args = append(ins.Args, entries[i+1])
	}
	return ins
}

// nothing is a function that answers nothing.
func nothing(name string) api.Func {
	return api.Func{Name: name, Blocks: []api.Block{row(take(api.Ret))}}
}

// short keeps a text of a test's message within bounds.
func short(s string) string { return s[:min(len(s), 500)] }

func wantPrint(t *testing.T, what string, m api.Module, want string) {
	t.Helper()
	if s, e := Print(m); s != want || e != api.OK {
		t.Errorf("P8.1: Print of %s: %d: %q, not %q", what, e, s, want)
	}
}

func wantNoPrint(t *testing.T, what string, m api.Module, want api.Errno) {
	t.Helper()
	if s, e := Print(m); s != "" || e != want {
		t.Errorf("P8.1: Print of %s: %d: %q, not %d and no text", what, e, s, want)
	}
}

func wantParse(t *testing.T, s string, want api.Module) {
	t.Helper()
	if m, at, e := Parse(s); !ir.Same(m, want) || at != 0 || e != api.OK {
		t.Errorf("P8.2: Parse of %q: %d at %d: %v, not %v", short(s), e, at, m, want)
	}
}

func wantNoParse(t *testing.T, s string, wantAt int, want api.Errno) {
	t.Helper()
	if m, at, e := Parse(s); !ir.Same(m, api.Module{}) || at != wantAt || e != want {
		t.Errorf("P8.2: Parse of %q: %d at %d, not %d at %d (module: %v)", short(s), e, at, want, wantAt, m)
	}
}

// wantFault has the place of the fault shown by a `!` ahead of it.
func wantFault(t *testing.T, shown string, want api.Errno) {
	t.Helper()
	ahead, behind, found := strings.Cut(shown, "!")
	if !found || strings.Contains(behind, "!") {
		t.Fatalf("%q shows not one place", shown)
	}
	wantNoParse(t, ahead+behind, len(ahead), want)
}

// dice gives numbers that look thrown, the same ones in every run.
type dice uint64

func (d *dice) below(n int) int {
	*d = *d*6364136223846793005 + 1442695040888963407
	return int(uint64(*d)>>33) % n
}

func (d *dice) one(of []string) string { return of[d.below(len(of))] }

// spared copies all of m, by means of its own; each list with so much room behind its length, in which stands what no
// text has; where it has no items, as nil, if there is no room.
func spared(m api.Module, room int) api.Module {
	return sparedValue(reflect.ValueOf(m), room).Interface().(api.Module)
}

func sparedValue(v reflect.Value, room int) reflect.Value {
	switch v.Kind() {
	case reflect.Struct:
		made := reflect.New(v.Type()).Elem()
		for i := range v.NumField() {
			made.Field(i).Set(sparedValue(v.Field(i), room))
		}
		return made
	case reflect.Slice:
		if v.Len()+room == 0 {
			return reflect.Zero(v.Type())
		}
		made := reflect.MakeSlice(v.Type(), v.Len()+room, v.Len()+room)
		for i := range made.Len() {
			if i < v.Len() {
				made.Index(i).Set(sparedValue(v.Index(i), room))
			} else {
				scrawl(made.Index(i))
			}
		}
		return made.Slice(0, v.Len())
	}
	return v
}

// scrawl writes into a place, and into all that hangs on it, what no text has.
func scrawl(v reflect.Value) {
	switch v.Kind() {
	case reflect.Struct:
		for i := range v.NumField() {
			scrawl(v.Field(i))
		}
	case reflect.Slice:
		v.Set(reflect.MakeSlice(v.Type(), 1, 1))
		scrawl(v.Index(0))
	case reflect.Int, reflect.Int64:
		v.SetInt(7777)
	case reflect.String:
		v.SetString("scrawl")
	case reflect.Bool:
		v.SetBool(true)
	}
}

// memory is a copy of all of m, with what lies behind the length of its lists.
func memory(m api.Module) api.Module {
	return memoryOf(reflect.ValueOf(m)).Interface().(api.Module)
}

func memoryOf(v reflect.Value) reflect.Value {
	switch v.Kind() {
	case reflect.Struct:
		made := reflect.New(v.Type()).Elem()
		for i := range v.NumField() {
			made.Field(i).Set(memoryOf(v.Field(i)))
		}
		return made
	case reflect.Slice:
		made := reflect.MakeSlice(v.Type(), v.Cap(), v.Cap())
		for i := range v.Cap() {
			made.Index(i).Set(memoryOf(v.Slice(0, v.Cap()).Index(i)))
		}
		return made
	}
	return v
}

// space is the memory of a list, with what lies behind its length.
type space struct {
	what       string
	begin, end uintptr
}

func spacesOf(what string, v reflect.Value) []space {
	var spaces []space
	switch v.Kind() {
	case reflect.Struct:
		for i := range v.NumField() {
			spaces = append(spaces, spacesOf(what+"."+v.Type().Field(i).Name, v.Field(i))...)
		}
	case reflect.Slice:
		if v.Cap() > 0 {
			begin := v.Pointer()
			spaces = append(spaces, space{what, begin, begin + uintptr(v.Cap())*v.Type().Elem().Size()})
		}
		for i := range v.Len() {
			spaces = append(spaces, spacesOf(what+"["+strconv.Itoa(i)+"]", v.Index(i))...)
		}
	}
	return spaces
}

// wantApart asks that no two lists of all the modules lie in one memory.
func wantApart(t *testing.T, modules ...api.Module) {
	t.Helper()
	all := spacesOf("modules", reflect.ValueOf(modules))
	slices.SortFunc(all, func(a, b space) int { return int(a.begin) - int(b.begin) })
	for i := 1; i < len(all); i++ {
		if all[i-1].end > all[i].begin {
			t.Errorf("P0.4: %s shares memory with %s", all[i-1].what, all[i].what)
		}
	}
}
