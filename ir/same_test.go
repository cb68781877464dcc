package ir

import (
	"math"
	"reflect"
	"slices"
	"testing"

	"planish/api"
)

// turnInt sets a number, one after the other, to others.
func turnInt(part reflect.Value, look func(how string)) {
	was := part.Int()
	for _, other := range []int64{was + 1, was - 1, -was, ^was, was ^ 1<<32, was ^ math.MinInt64, 0} {
		if other != was {
			part.SetInt(other)
			look("another number")
		}
	}
	part.SetInt(was)
}

func turnText(part reflect.Value, look func(how string)) {
	was := part.String()
	for _, other := range []string{was + "x", was + "\x00", "x" + was, "", "\xff", "E", "F", "G", "T", "a", "z"} {
		if other != was {
			part.SetString(other)
			look("another text")
		}
	}
	part.SetString(was)
}

func turnList(part reflect.Value, look func(how string)) {
	was := reflect.New(part.Type()).Elem()
	was.Set(part)
	none := reflect.MakeSlice(was.Type(), 0, 0)
	more := reflect.MakeSlice(was.Type(), 1, 1)
	part.Set(reflect.AppendSlice(reflect.AppendSlice(none, was), more))
	look("one more at the end")
	part.Set(reflect.AppendSlice(reflect.AppendSlice(none, more), was))
	look("one more at the beginning")
	if count := was.Len(); count > 0 {
		part.Set(was.Slice(0, count-1))
		look("one less at the end")
		part.Set(was.Slice(1, count))
		look("one less at the beginning")
		part.SetZero()
		look("nil")
		part.Set(none)
		look("empty")
		part.Set(reflect.Append(reflect.AppendSlice(none, was), was.Index(count-1)))
		look("the last one twice")
	}
	part.Set(was)
}

// turnItem sets an item that has fields of its own to an empty one.
func turnItem(part reflect.Value, look func(how string)) {
	if part.IsZero() {
		return
	}
	was := reflect.New(part.Type()).Elem()
	was.Set(part)
	part.SetZero()
	look("nothing in it")
	part.Set(was)
}

// turn makes a field, a list or an item another one, in several ways one after the other, and at last what it was.
func turn(part reflect.Value, look func(how string)) {
	switch part.Kind() {
	case reflect.Int, reflect.Int64:
		turnInt(part, look)
	case reflect.String:
		turnText(part, look)
	case reflect.Bool:
		part.SetBool(!part.Bool())
		look("turned")
		part.SetBool(!part.Bool())
	case reflect.Slice:
		turnList(part, look)
	case reflect.Struct:
		turnItem(part, look)
	}
}

// fieldsOfFunc are the fields and lists of a function.
func fieldsOfFunc() []string {
	return []string{
		".Name", ".Out", ".Params", ".Params[]", ".Result", ".Blocks", ".Blocks[]", ".Blocks[].Ins", ".Blocks[].Ins[]",
		".Blocks[].Ins[].Op", ".Blocks[].Ins[].Type", ".Blocks[].Ins[].To", ".Blocks[].Ins[].Sym", ".Blocks[].Ins[].Num",
		".Blocks[].Ins[].Args", ".Blocks[].Ins[].Args[]", ".Blocks[].Ins[].Into", ".Blocks[].Ins[].Into[]",
	}
}

func fieldsOfModule() []string {
	fields := []string{
		".Externs", ".Externs[]", ".Externs[].Name", ".Externs[].Params", ".Externs[].Params[]", ".Externs[].Result",
		".Globals", ".Globals[]", ".Globals[].Name", ".Globals[].Cells", ".Globals[].Cells[]",
		".Tables", ".Tables[]", ".Tables[].Name", ".Tables[].Funcs", ".Tables[].Funcs[]",
		".Funcs", ".Funcs[]",
	}
	for _, field := range fieldsOfFunc() {
		fields = append(fields, ".Funcs[]"+field)
	}
	return fields
}

// wantOthers asks that whatever is turned in thing, same tells it; and that all of fields were turned.
func wantOthers[T any](t *testing.T, call string, thing T, same func(a, b T) bool, fields []string) {
	t.Helper()
	turned := clone(thing, 0)
	seen := map[string]bool{}
	eachPart(&turned, func(what, kind string, part reflect.Value) {
		turn(part, func(how string) {
			seen[kind] = true
			if same(thing, turned) || same(turned, thing) {
				t.Errorf("P3.2: %s: true, but %s: %s", call, what, how)
			}
		})
		if !same(thing, turned) || !same(turned, thing) {
			t.Errorf("P3.2: %s: false, but %s is as it was", call, what)
		}
	})
	for _, field := range fields {
		if !seen[field] {
			t.Errorf("%s: the test turns no %s", call, field)
		}
	}
}

func TestSameTellsWhateverIsTurned(t *testing.T) {
	wantOthers(t, "Same", sampleModule(), Same, fieldsOfModule())
	wantOthers(t, "SameFunc", sampleFunc(), SameFunc, fieldsOfFunc())
}

// TestSameTellsWhateverIsTurnedInEmptyThings: a list of one empty thing is another one than no list.
func TestSameTellsWhateverIsTurnedInEmptyThings(t *testing.T) {
	empty := api.Func{Params: []int{0}, Blocks: []api.Block{{Ins: []api.Ins{{Args: []int{0}, Into: []int{0}}}}}}
	wantOthers(t, "Same", api.Module{}, Same, []string{".Externs", ".Globals", ".Tables", ".Funcs"})
	wantOthers(t, "SameFunc", api.Func{}, SameFunc, []string{".Name", ".Out", ".Params", ".Result", ".Blocks"})
	wantOthers(t, "SameFunc", empty, SameFunc, fieldsOfFunc())
	wantOthers(t, "Same", api.Module{
		Externs: []api.Extern{{Params: []int{0}}}, Globals: []api.Global{{Cells: []int64{0}}}, Tables: []api.Table{{Funcs: []int{0}}},
		Funcs: []api.Func{empty},
	}, Same, fieldsOfModule())
}

func TestSameOfItemsInAnotherOrder(t *testing.T) {
	m, turned := sampleModule(), sampleModule()
	for name, change := range map[string]func(){
		"Externs": func() { slices.Reverse(turned.Externs) }, "Params of an extern": func() { slices.Reverse(turned.Externs[0].Params) },
		"Globals": func() { slices.Reverse(turned.Globals) }, "Cells": func() { slices.Reverse(turned.Globals[0].Cells) },
		"Tables": func() { slices.Reverse(turned.Tables) }, "Funcs of a table": func() { slices.Reverse(turned.Tables[0].Funcs) },
		"Funcs": func() { slices.Reverse(turned.Funcs) }, "Params": func() { slices.Reverse(turned.Funcs[0].Params) },
		"Blocks": func() { slices.Reverse(turned.Funcs[0].Blocks) }, "Ins": func() { slices.Reverse(turned.Funcs[0].Blocks[0].Ins) },
		"Args":         func() { slices.Reverse(turned.Funcs[0].Blocks[0].Ins[1].Args) },
		"Into":         func() { slices.Reverse(turned.Funcs[0].Blocks[0].Ins[2].Into) },
		"Args as Into": func() { i := &turned.Funcs[0].Blocks[2].Ins[0]; i.Args, i.Into = i.Into, i.Args },
	} {
		change()
		if Same(m, turned) || Same(turned, m) {
			t.Errorf("P3.2: Same: true, but the %s are turned about", name)
		}
		turned = sampleModule()
	}
}

// wantSameOfNilAndEmpty sets each list that hangs on thing, by itself, to nil, and to the empty list.
func wantSameOfNilAndEmpty[T any](t *testing.T, call string, thing T, same func(a, b T) bool) {
	t.Helper()
	turned := clone(thing, 0)
	eachPart(&turned, func(what, _ string, part reflect.Value) {
		if part.Kind() != reflect.Slice {
			return
		}
		was := reflect.New(part.Type()).Elem()
		was.Set(part)
		part.SetZero()
		withNil := clone(turned, 0)
		part.Set(reflect.MakeSlice(part.Type(), 0, 3))
		withEmpty := clone(turned, 0)
		part.Set(was)
		if !same(withNil, withEmpty) || !same(withEmpty, withNil) {
			t.Errorf("P0.4: %s: false, but %s is nil here, and empty there", call, what)
		}
	})
}

func TestSameOfNilAndTheEmptyList(t *testing.T) {
	wantSameOfNilAndEmpty(t, "Same", sampleModule(), Same)
	wantSameOfNilAndEmpty(t, "SameFunc", sampleFunc(), SameFunc)
	empty := api.Module{Externs: []api.Extern{}, Globals: []api.Global{}, Tables: []api.Table{}, Funcs: []api.Func{}}
	if !Same(api.Module{}, empty) || !Same(empty, api.Module{}) || !Same(api.Module{}, api.Module{}) || !Same(empty, empty) {
		t.Error("P0.4: Same of nothing: false")
	}
	if f := (api.Func{Params: []int{}, Blocks: []api.Block{}}); !SameFunc(api.Func{}, f) || !SameFunc(f, api.Func{}) {
		t.Error("P0.4: SameFunc of nothing: false")
	}
}

func TestSameOfThrownFunctions(t *testing.T) {
	thrown := dice(2)
	last := api.Func{}
	for range 2000 {
		f := thrown.function()
		if !SameFunc(f, clone(f, 0)) || SameFunc(f, last) != alike(f, last) {
			t.Fatalf("P3.2: SameFunc of %+v, and of it and %+v", f, last)
		}
		a, b := api.Module{Funcs: []api.Func{last, f}}, api.Module{Funcs: []api.Func{f, last}}
		if !Same(a, clone(a, 0)) || Same(a, b) != alike(f, last) {
			t.Fatalf("P3.2: Same of %+v, and of it and %+v", a, b)
		}
		last = f
	}
}

func TestSameLooksNotBehindTheLength(t *testing.T) {
	m, f := clone(sampleModule(), 3), clone(sampleFunc(), 3)
	beforeM, beforeF := memory(m), memory(f)
	if !Same(m, sampleModule()) || !Same(sampleModule(), m) || !SameFunc(f, sampleFunc()) || !SameFunc(sampleFunc(), f) {
		t.Error("P0.4: false, but the two differ behind the length of their lists alone")
	}
	if !alike(memory(m), beforeM) || !alike(memory(f), beforeF) {
		t.Error("P0.4: what was handed in is changed")
	}
}
