package ir

import (
	"math"
	"reflect"
	"strconv"
	"testing"

	"planish/api"
)

// sampleFunc is a neat function of several parameters, blocks and instructions, some of which give no value.
func sampleFunc() api.Func {
	return api.Func{Name: "f", Out: true, Params: []int{api.I64, api.I1}, Result: api.I64, Blocks: []api.Block{
		{Ins: []api.Ins{
			{Op: api.Room, Type: api.Ptr, To: 3, Num: 2},
			{Op: api.Store, Args: []int{3, 1}},
			{Op: api.Br, Args: []int{2}, Into: []int{2, 1}},
		}},
		{Ins: []api.Ins{
			{Op: api.Call, Type: api.I64, To: 4, Sym: 1, Args: []int{1, 2}},
			{Op: api.Jump, Into: []int{2}},
		}},
		{Ins: []api.Ins{
			{Op: api.Phi, Type: api.I64, To: 5, Args: []int{1, 4}, Into: []int{0, 1}},
			{Op: api.Ret, Args: []int{5}},
		}},
	}}
}

// sampleModule has in each of its lists several items, with each field of an item somewhere other than 0.
func sampleModule() api.Module {
	return api.Module{
		Externs: []api.Extern{{Name: "e", Params: []int{api.I64, api.I1}, Result: api.I1}, {Name: "x"}},
		Globals: []api.Global{{Name: "g", Cells: []int64{1, math.MinInt64, 0}}, {Name: "k", Cells: []int64{7}}},
		Tables:  []api.Table{{Name: "t", Funcs: []int{0, -1}}, {Name: "u", Funcs: []int{1}}},
		Funcs: []api.Func{sampleFunc(), {Name: "h", Params: []int{api.Ptr}, Blocks: []api.Block{
			{Ins: []api.Ins{{Op: api.Num, Type: api.I64, To: 2, Num: -5}, {Op: api.Ret}}},
		}}},
	}
}

// oddNumbers are numbers that name a value of few functions, or of none.
func oddNumbers() []int {
	return []int{math.MinInt, math.MinInt + 1, -1 << 32, -5, -2, -1, 0, 1, 2, 3, 4, 5, 6, 7, 8, 50, 1 << 32, 1<<32 + 1, math.MaxInt - 1, math.MaxInt}
}

// dice gives numbers that look thrown, the same ones in every run.
type dice uint64

func (d *dice) below(n int) int {
	*d = *d*6364136223846793005 + 1442695040888963407
	return int(uint64(*d)>>33) % n
}

func (d *dice) odd() int {
	if d.below(4) > 0 {
		return d.below(9)
	}
	return oddNumbers()[d.below(len(oddNumbers()))]
}

func (d *dice) odds(most int) []int {
	list := make([]int, 0, most)
	for range d.below(most + 1) {
		list = append(list, d.odd())
	}
	return list
}

func (d *dice) ins() api.Ins {
	ins := api.Ins{Op: d.below(api.Stop + 2), To: d.odd(), Sym: d.odd(), Num: int64(d.odd()), Args: d.odds(5), Into: d.odds(3)}
	if d.below(3) > 0 {
		ins.Type = d.odd()
	}
	if d.below(2) > 0 {
		ins.Op = api.Phi
	}
	for d.below(3) > 0 && len(ins.Into) < len(ins.Args) {
		ins.Into = append(ins.Into, d.below(3))
	}
	return ins
}

// function throws one that mostly may not be.
func (d *dice) function() api.Func {
	f := api.Func{Name: "d", Out: d.below(2) > 0, Params: d.odds(3), Result: d.odd()}
	for range d.below(4) {
		block := api.Block{}
		for range d.below(6) {
			block.Ins = append(block.Ins, d.ins())
		}
		f.Blocks = append(f.Blocks, block)
	}
	return f
}

// clone copies all of thing, by other means than Copy; each list with so much marked spare room behind its length.
func clone[T any](thing T, spare int) T {
	return cloneValue(reflect.ValueOf(thing), spare).Interface().(T)
}

func cloneValue(v reflect.Value, spare int) reflect.Value {
	switch v.Kind() {
	case reflect.Struct:
		made := reflect.New(v.Type()).Elem()
		for i := range v.NumField() {
			made.Field(i).Set(cloneValue(v.Field(i), spare))
		}
		return made
	case reflect.Slice:
		if v.IsNil() && spare == 0 {
			return v
		}
		made := reflect.MakeSlice(v.Type(), v.Len()+spare, v.Len()+spare)
		for i := range made.Len() {
			if i < v.Len() {
				made.Index(i).Set(cloneValue(v.Index(i), spare))
			} else {
				mark(made.Index(i))
			}
		}
		return made.Slice(0, v.Len())
	}
	return v
}

// mark writes into a place something that no answer has.
func mark(v reflect.Value) {
	switch v.Kind() {
	case reflect.Struct:
		for i := range v.NumField() {
			mark(v.Field(i))
		}
	case reflect.Slice:
		v.Set(reflect.MakeSlice(v.Type(), 1, 1))
		mark(v.Index(0))
	case reflect.Int, reflect.Int64:
		v.SetInt(7777)
	case reflect.String:
		v.SetString("mark")
	case reflect.Bool:
		v.SetBool(true)
	}
}

// memory is a copy of all of thing, with what lies behind the length of its lists.
func memory[T any](thing T) T {
	return memoryOf(reflect.ValueOf(thing)).Interface().(T)
}

func memoryOf(v reflect.Value) reflect.Value {
	switch v.Kind() {
	case reflect.Struct:
		made := reflect.New(v.Type()).Elem()
		for i := range v.NumField() {
			made.Field(i).Set(memoryOf(v.Field(i)))
		}
		return made
	case reflect.Slice:
		made := reflect.MakeSlice(v.Type(), v.Cap(), v.Cap())
		for i := range v.Cap() {
			made.Index(i).Set(memoryOf(v.Slice(0, v.Cap()).Index(i)))
		}
		return made
	}
	return v
}

// alike tells whether a and b are the same, nil and the empty list being so, by other means than Same.
func alike(a, b any) bool { return alikeValues(reflect.ValueOf(a), reflect.ValueOf(b)) }

func alikeValues(a, b reflect.Value) bool {
	switch a.Kind() {
	case reflect.Struct:
		for i := range a.NumField() {
			if !alikeValues(a.Field(i), b.Field(i)) {
				return false
			}
		}
		return true
	case reflect.Slice:
		if a.Len() != b.Len() {
			return false
		}
		for i := range a.Len() {
			if !alikeValues(a.Index(i), b.Index(i)) {
				return false
			}
		}
		return true
	}
	return a.Equal(b)
}

// eachPart shows each field and each item of what thing points to, with all that hangs on them; what names its fields, kind
// leaves out of that the places of items.
func eachPart(thing any, show func(what, kind string, part reflect.Value)) {
	showParts("", "", reflect.ValueOf(thing).Elem(), show)
}

func showParts(what, kind string, v reflect.Value, show func(what, kind string, part reflect.Value)) {
	switch v.Kind() {
	case reflect.Struct:
		for i := range v.NumField() {
			name := "." + v.Type().Field(i).Name
			show(what+name, kind+name, v.Field(i))
			showParts(what+name, kind+name, v.Field(i), show)
		}
	case reflect.Slice:
		for i := range v.Len() {
			place := what + "[" + strconv.Itoa(i) + "]"
			show(place, kind+"[]", v.Index(i))
			showParts(place, kind+"[]", v.Index(i), show)
		}
	}
}

// space is the memory of a list, with what lies behind its length.
type space struct {
	what       string
	begin, end uintptr
}

func spacesOf(what string, v reflect.Value) []space {
	var spaces []space
	switch v.Kind() {
	case reflect.Struct:
		for i := range v.NumField() {
			spaces = append(spaces, spacesOf(what+"."+v.Type().Field(i).Name, v.Field(i))...)
		}
	case reflect.Slice:
		if v.Cap() > 0 {
			begin := v.Pointer()
			spaces = append(spaces, space{what, begin, begin + uintptr(v.Cap())*v.Type().Elem().Size()})
		}
		for i := range v.Len() {
			spaces = append(spaces, spacesOf(what+"["+strconv.Itoa(i)+"]", v.Index(i))...)
		}
	}
	return spaces
}

// wantNewMemory asks that no list of answer lies in the memory of another one, nor in that of what was handed in.
func wantNewMemory(t *testing.T, name string, answer, handedIn any) {
	t.Helper()
	out := spacesOf("answer", reflect.ValueOf(answer))
	others := append(spacesOf("handed in", reflect.ValueOf(handedIn)), out...)
	for i, mine := range out {
		for k, other := range others {
			itself := k == len(others)-len(out)+i
			if !itself && mine.begin < other.end && other.begin < mine.end {
				t.Errorf("P0.4: %s: %s shares memory with %s", name, mine.what, other.what)
			}
		}
	}
}
