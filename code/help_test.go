package code

import (
	"bytes"
	"encoding/hex"
	"fmt"
	"reflect"
	"slices"
	"strconv"
	"strings"
	"testing"

	"planish/api"
	"planish/ir"
	"planish/text"
	"planish/wf"
)

// sampleText has each Op, and of each thing such as list nothing (where that may be), one and several.
const sampleText = `extern mute none
extern ask i1 i64
extern tell i64 i64 i1 i1 i64 i64
global nought 0
global ends -9223372036854775808 9223372036854775807 -1 10
table one main
table gaps - hand - main main -
func hand fun ptr fun i64 i1
^0
%5 fun = fun main
br %4 ^1 ^2
^1
ret %5
^2
ret %2
out main i64 i64 i1
^0
%3 i64 = num -9223372036854775808
%4 i64 = num 9223372036854775807
%5 i1 = num 1
%6 ptr = glo ends
%7 ptr = room 16
%8 i64 = add %1 %3
%9 i64 = sub %8 %4
%10 i64 = mul %9 %1
%11 i64 = div %10 %1
%12 i64 = rem %11 %1
%13 i64 = and %12 %1
%14 i64 = or %13 %1
%15 i64 = xor %14 %1
%16 i64 = shl %15 %1
%17 i64 = shr %16 %1
%18 i1 = eq %17 %1
%19 i1 = lt %1 %17
%20 i1 = not %19
%21 i64 = sel %20 %17 %16
%22 ptr = at %7 %1
%23 i64 = load %22
store %6 %21
jump ^1
^1
%24 i64 = phi ^0 %23 ^2 %26
%25 i1 = phi ^0 %2 ^2 %30
br %25 ^2 ^3
^2
%26 i64 = add %24 %1
call plain
%27 i64 = call own %26
%28 fun = tab gaps %27
%29 i64 = via %28 %27 %20
via %28
%30 i1 = ext ask %29
ext mute
%31 i64 = ext tell %29 %30 %20 %29 %1
jump ^1
^3
ret %24
func own i64 i64
^0
ret %1
out plain none
^0
ret
func halt i1
^0
stop
`

// smallText has fewer of all.
const smallText = `extern e i1 i64
global g 1 -300
table t - f
out f i64 i64
^0
%2 i64 = num -2
%3 i1 = ext e %1
br %3 ^1 ^2
^1
jump ^2
^2
%4 i64 = phi ^0 %1 ^1 %2
ret %4
`

func parsed(t *testing.T, s string) api.Module {
	t.Helper()
	m, at, e := text.Parse(s)
	if e != api.OK {
		t.Fatalf("the test has a text that is no module: %d at %d: %q", e, at, s)
	}
	return m
}

// overfull is m, and behind its other globals one without cells: it is laid out as well as m is, but Check says
// ErrLimit whatever else is in it, so that ErrForm is of the bytes alone.
func overfull(m api.Module) api.Module {
	m = ir.Copy(m)
	m.Globals = append(m.Globals, api.Global{Name: "empty"})
	return m
}

// Kinds of parts.
const (
	count   = iota
	number  // one that fits an int32
	wide    // one of 64 bits
	out     // 0 or 1
	letters // a text
)

// part is a number or a text that stands in a module's bytes.
type part struct {
	what string
	kind int
	n    int64
	s    string
}

// partsOf gives the parts of m, as chapter 9 lays them out.
func partsOf(m api.Module) []part {
	var all []part
	add := func(what string, kind int, n int64) { all = append(all, part{what: what, kind: kind, n: n}) }
	name := func(what, s string) { all = append(all, part{what: what, kind: letters, s: s}) }
	list := func(what string, numbers []int) {
		add("how many "+what, count, int64(len(numbers)))
		for i, n := range numbers {
			add(what+" "+strconv.Itoa(i), number, int64(n))
		}
	}
	add("how many externs", count, int64(len(m.Externs)))
	for _, e := range m.Externs {
		name("an extern's Name", e.Name)
		add("an extern's Result", number, int64(e.Result))
		list("Params of an extern", e.Params)
	}
	add("how many globals", count, int64(len(m.Globals)))
	for _, g := range m.Globals {
		name("a global's Name", g.Name)
		add("how many Cells", count, int64(len(g.Cells)))
		for i, cell := range g.Cells {
			add("Cells "+strconv.Itoa(i), wide, cell)
		}
	}
	add("how many tables", count, int64(len(m.Tables)))
	for _, t := range m.Tables {
		name("a table's Name", t.Name)
		list("Funcs of a table", t.Funcs)
	}
	add("how many functions", count, int64(len(m.Funcs)))
	for _, f := range m.Funcs {
		isOut := int64(0)
		if f.Out {
			isOut = 1
		}
		name("a function's Name", f.Name)
		add("Out", out, isOut)
		add("a function's Result", number, int64(f.Result))
		list("Params of a function", f.Params)
		add("how many Blocks", count, int64(len(f.Blocks)))
		for _, b := range f.Blocks {
			add("how many Ins", count, int64(len(b.Ins)))
			for _, ins := range b.Ins {
				add("Op", number, int64(ins.Op))
				add("Type", number, int64(ins.Type))
				add("To", number, int64(ins.To))
				add("Sym", number, int64(ins.Sym))
				add("Num", wide, ins.Num)
				list("Args", ins.Args)
				list("Into", ins.Into)
			}
		}
	}
	return all
}

// numberBytes is n as chapter 2 has numbers.
func numberBytes(n int64) []byte {
	first, size := byte(0), uint64(n)
	if n < 0 {
		first, size = 16, uint64(-(n + 1))
	}
	var digits []byte
	for ; size > 0; size /= 256 {
		digits = append(digits, byte(size%256))
	}
	slices.Reverse(digits)
	return append([]byte{first + byte(len(digits))}, digits...)
}

func (p part) bytes() []byte {
	if p.kind == letters {
		return append(numberBytes(int64(len(p.s))), p.s...)
	}
	return numberBytes(p.n)
}

// bytesOf gives the head, and the parts behind it.
func bytesOf(parts []part) []byte {
	b := []byte{0, 'p', 'l', 'n', '1'}
	for _, p := range parts {
		b = append(b, p.bytes()...)
	}
	return b
}

// bytesWith gives the bytes of the parts with others in place of the part i.
func bytesWith(parts []part, i int, other ...byte) []byte {
	b := append(bytesOf(parts[:i]), other...)
	return append(b, bytesOf(parts[i+1:])[5:]...)
}

func hexBytes(t *testing.T, s string) []byte {
	t.Helper()
	b, err := hex.DecodeString(strings.Join(strings.Fields(s), ""))
	if err != nil {
		t.Fatalf("the test has %q for bytes: %v", s, err)
	}
	return b
}

// fault is a module that Check refuses.
type fault struct {
	what string
	m    api.Module
	e    api.Errno
}

// faults has each of Check's errors in the sample, at its beginning and at its end, and some two of them.
func faults(t *testing.T) []fault {
	t.Helper()
	var all []fault
	add := func(what string, e api.Errno, change func(m *api.Module)) {
		m := ir.Copy(parsed(t, sampleText))
		change(&m)
		if is := wf.Check(m); is != e {
			t.Fatalf("the test has %s as %d, but Check says %d", what, e, is)
		}
		all = append(all, fault{what, m, e})
	}
	last := func(m *api.Module) *api.Ins { return &m.Funcs[4].Blocks[0].Ins[0] }
	add("too many externs", api.ErrLimit, func(m *api.Module) { m.Externs = make([]api.Extern, api.MaxExterns+1) })
	add("a global without cells", api.ErrLimit, func(m *api.Module) { m.Globals[0].Cells = nil })
	add("a table without entries", api.ErrLimit, func(m *api.Module) { m.Tables[1].Funcs = nil })
	add("a function without blocks", api.ErrLimit, func(m *api.Module) { m.Funcs[4].Blocks = nil })
	add("too many Ins", api.ErrLimit, func(m *api.Module) { m.Funcs[4].Blocks[0].Ins = make([]api.Ins, api.MaxIns+1) })
	add("an extern's Result that is no type", api.ErrForm, func(m *api.Module) { m.Externs[0].Result = -1 })
	add("an Op that is none", api.ErrForm, func(m *api.Module) { last(m).Op = 31 })
	add("a Type that is none", api.ErrForm, func(m *api.Module) { last(m).Type = 5 })
	add("a To below 0", api.ErrForm, func(m *api.Module) { last(m).To = -1 })
	add("a Num where none is", api.ErrForm, func(m *api.Module) { last(m).Num = 1 << 40 })
	add("an Into where none is", api.ErrForm, func(m *api.Module) { last(m).Into = []int{0} })
	add("a name of nothing", api.ErrName, func(m *api.Module) { m.Externs[0].Name = "" })
	add("a name with a byte 0", api.ErrName, func(m *api.Module) { m.Funcs[4].Name = "a\x00" })
	add("a name with high bytes", api.ErrName, func(m *api.Module) { m.Tables[0].Name = "\xff\x80" })
	add("two names alike", api.ErrName, func(m *api.Module) { m.Funcs[4].Name = "mute" })
	add("an entry below -1", api.ErrSym, func(m *api.Module) { m.Tables[1].Funcs[0] = -2 })
	add("a function that is not there", api.ErrSym, func(m *api.Module) { m.Funcs[0].Blocks[0].Ins[0].Sym = 5 })
	add("a block without an end", api.ErrFlow, func(m *api.Module) { m.Funcs[0].Blocks[2].Ins = nil })
	add("a way to block 0", api.ErrFlow, func(m *api.Module) { m.Funcs[0].Blocks[0].Ins[1].Into[0] = 0 })
	add("a way to a block below 0", api.ErrFlow, func(m *api.Module) { m.Funcs[0].Blocks[0].Ins[1].Into[0] = -1 })
	add("a value that is not there", api.ErrUse, func(m *api.Module) { m.Funcs[0].Blocks[1].Ins[0].Args[0] = 6 })
	add("a value below 0", api.ErrUse, func(m *api.Module) { m.Funcs[0].Blocks[1].Ins[0].Args[0] = -5 })
	add("a To that is not the next one", api.ErrUse, func(m *api.Module) { m.Funcs[0].Blocks[0].Ins[0].To = 1<<31 - 1 })
	add("types that do not fit", api.ErrType, func(m *api.Module) { *last(m) = api.Ins{Op: api.Ret} })
	add("ErrType, and ErrName behind it", api.ErrName, func(m *api.Module) { m.Funcs[0].Result, m.Funcs[3].Name = api.I64, "A" })
	return all
}

// dice gives numbers that look thrown, the same ones in every run.
type dice uint64

func (d *dice) below(n int) int {
	*d = *d*6364136223846793005 + 1442695040888963407
	return int(uint64(*d)>>33) % n
}

// short keeps what a test tells within bounds.
func short(layout string, thing any) string {
	s := fmt.Sprintf(layout, thing)
	return strconv.QuoteToASCII(s[:min(len(s), 600)])
}

func wantEncode(t *testing.T, what string, m api.Module, want []byte) {
	t.Helper()
	if b, e := Encode(m); !bytes.Equal(b, want) || e != api.OK {
		t.Errorf("P9.1: Encode of %s: %d: %s, not %s", what, e, short("% x", b), short("% x", want))
	}
}

func wantNoEncode(t *testing.T, what string, m api.Module, want api.Errno) {
	t.Helper()
	if b, e := Encode(m); len(b) > 0 || e != want {
		t.Errorf("P9.1: Encode of %s: %d: %s, not %d and no bytes", what, e, short("% x", b), want)
	}
}

func wantDecode(t *testing.T, what string, b []byte, want api.Module) {
	t.Helper()
	if m, e := Decode(b); !ir.Same(m, want) || e != api.OK {
		t.Errorf("P9.2: Decode of %s: %d: %s, not %s", what, e, short("%v", m), short("%v", want))
	}
}

func wantNoDecode(t *testing.T, what string, b []byte, want api.Errno) {
	t.Helper()
	if m, e := Decode(b); !ir.Same(m, api.Module{}) || e != want {
		t.Errorf("P9.2: Decode of %s: %d: %s, not %d and no module (%s)", what, e, short("%v", m), want, short("% x", b[:min(len(b), 300)]))
	}
}

// wantInWords holds Decode of b against P9.2 worked out in another way.
func wantInWords(t *testing.T, what string, b []byte) {
	t.Helper()
	want, e := inWords(b)
	if e != api.OK {
		wantNoDecode(t, what, b, e)
		return
	}
	wantDecode(t, what, b, want)
	wantEncode(t, "what "+what+" is", want, b)
}

// spared copies all of m, by means of its own; each list with so much room behind its length, in which stands what no
// module of the tests has.
func spared(m api.Module, room int) api.Module {
	return sparedValue(reflect.ValueOf(m), room).Interface().(api.Module)
}

func sparedValue(v reflect.Value, room int) reflect.Value {
	switch v.Kind() {
	case reflect.Struct:
		made := reflect.New(v.Type()).Elem()
		for i := range v.NumField() {
			made.Field(i).Set(sparedValue(v.Field(i), room))
		}
		return made
	case reflect.Slice:
		made := reflect.MakeSlice(v.Type(), v.Len()+room, v.Len()+room)
		for i := range made.Len() {
			if i < v.Len() {
				made.Index(i).Set(sparedValue(v.Index(i), room))
			} else {
				scrawl(made.Index(i))
			}
		}
		return made.Slice(0, v.Len())
	}
	return v
}

// scrawl writes something into a place, and into all that hangs on it.
func scrawl(v reflect.Value) {
	switch v.Kind() {
	case reflect.Struct:
		for i := range v.NumField() {
			scrawl(v.Field(i))
		}
	case reflect.Slice:
		v.Set(reflect.MakeSlice(v.Type(), 1, 1))
		scrawl(v.Index(0))
	case reflect.Int, reflect.Int64:
		v.SetInt(7777)
	case reflect.String:
		v.SetString("scrawl")
	case reflect.Bool:
		v.SetBool(true)
	}
}

// memory is a copy of all of m, with what lies behind the length of its lists.
func memory(m api.Module) api.Module {
	return memoryOf(reflect.ValueOf(m)).Interface().(api.Module)
}

func memoryOf(v reflect.Value) reflect.Value {
	switch v.Kind() {
	case reflect.Struct:
		made := reflect.New(v.Type()).Elem()
		for i := range v.NumField() {
			made.Field(i).Set(memoryOf(v.Field(i)))
		}
		return made
	case reflect.Slice:
		made := reflect.MakeSlice(v.Type(), v.Cap(), v.Cap())
		for i := range v.Cap() {
			made.Index(i).Set(memoryOf(v.Slice(0, v.Cap()).Index(i)))
		}
		return made
	}
	return v
}

// space is the memory of a list, with what lies behind its length, or of a text.
type space struct {
	what       string
	begin, end uintptr
}

func spacesOf(what string, v reflect.Value) []space {
	var spaces []space
	switch v.Kind() {
	case reflect.Struct:
		for i := range v.NumField() {
			spaces = append(spaces, spacesOf(what+"."+v.Type().Field(i).Name, v.Field(i))...)
		}
	case reflect.Slice:
		if v.Cap() > 0 {
			begin := v.Pointer()
			spaces = append(spaces, space{what, begin, begin + uintptr(v.Cap())*v.Type().Elem().Size()})
		}
		for i := range v.Len() {
			spaces = append(spaces, spacesOf(what+"["+strconv.Itoa(i)+"]", v.Index(i))...)
		}
	}
	return spaces
}

// wantApart asks that no two lists of all that is given lie in one memory.
func wantApart(t *testing.T, things ...any) {
	t.Helper()
	var all []space
	for i, thing := range things {
		all = append(all, spacesOf("thing "+strconv.Itoa(i), reflect.ValueOf(thing))...)
	}
	slices.SortFunc(all, func(a, b space) int { return int(a.begin) - int(b.begin) })
	for i := 1; i < len(all); i++ {
		if all[i-1].end > all[i].begin {
			t.Errorf("P0.4: %s shares memory with %s", all[i-1].what, all[i].what)
		}
	}
}
