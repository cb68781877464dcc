package wf

import (
	"math"
	"reflect"
	"slices"
	"testing"

	"planish/api"
	"planish/dom"
	"planish/flow"
	"planish/ir"
)

// inWords is Check's answer, found clause by clause as P6.3 has them, without a thought of time.
func inWords(m api.Module) api.Errno {
	for i, holds := range []func(m api.Module) bool{limitInWords, formInWords, nameInWords, symInWords, flowInWords, useInWords, typeInWords} {
		if holds(m) {
			return order()[i]
		}
	}
	return api.OK
}

func limitInWords(m api.Module) bool {
	bad := len(m.Funcs) > 24 || len(m.Externs) > 12 || len(m.Globals) > 12 || len(m.Tables) > 6
	for _, f := range m.Funcs {
		bad = bad || len(f.Params) > 5 || len(f.Blocks) == 0 || len(f.Blocks) > 40 || ir.Size(f) > 300
	}
	for _, e := range m.Externs {
		bad = bad || len(e.Params) > 5
	}
	for _, g := range m.Globals {
		bad = bad || len(g.Cells) == 0 || len(g.Cells) > 16
	}
	for _, t := range m.Tables {
		bad = bad || len(t.Funcs) == 0 || len(t.Funcs) > 12
	}
	return bad
}

func formInWords(m api.Module) bool {
	bad := false
	for _, e := range m.Externs {
		for _, p := range e.Params {
			bad = bad || p != api.I64 && p != api.I1
		}
		bad = bad || !slices.Contains([]int{0, api.I64, api.I1}, e.Result)
	}
	for _, f := range m.Funcs {
		for _, p := range f.Params {
			bad = bad || p < 1 || p > 4 || f.Out && p != api.I64 && p != api.I1
		}
		bad = bad || !slices.Contains([]int{0, api.I64, api.I1, api.Fun}, f.Result) || f.Out && f.Result == api.Fun
		for _, b := range f.Blocks {
			for _, ins := range b.Ins {
				bad = bad || insFormInWords(ins)
			}
		}
	}
	return bad
}

func insFormInWords(ins api.Ins) bool {
	says, is := table[ins.Op]
	args, into := len(ins.Args), len(ins.Into)
	bad := !is || says.args >= 0 && args != says.args || says.into >= 0 && into != says.into
	end := ins.Op >= api.Jump && ins.Op <= api.Stop
	switch ins.Op {
	case api.Phi:
		bad = bad || args != into || args == 0
	case api.Ret:
		bad = bad || args > 1
	case api.Via:
		bad = bad || args == 0 || args > 6
	case api.Call, api.Ext:
		bad = bad || args > 5
	case api.Room:
		bad = bad || ins.Num <= 0 || ins.Num > 16
	}
	bad = bad || ins.Sym != 0 && !says.sym || ins.Num != 0 && !says.num
	bad = bad || ins.Type < 0 || ins.Type > 4 || ins.Type != 0 && (ins.Op == api.Store || end)
	bad = bad || ins.Type == 0 && !end && !slices.Contains([]int{api.Store, api.Call, api.Ext, api.Via}, ins.Op)
	return bad || ins.Type == 0 && ins.To != 0 || ins.Type != 0 && ins.To < 1
}

func nameInWords(m api.Module) bool {
	var names []string
	eachPart(&m, func(what string, part reflect.Value) {
		if part.Kind() == reflect.String {
			names = append(names, part.String())
		}
	})
	bad := slices.ContainsFunc(names, func(s string) bool { return !Name(s) })
	slices.Sort(names)
	return bad || len(slices.Compact(slices.Clone(names))) != len(names)
}

func symInWords(m api.Module) bool {
	bad := false
	counts := map[int]int{api.FunOf: len(m.Funcs), api.Call: len(m.Funcs), api.GloOf: len(m.Globals), api.Ext: len(m.Externs), api.Tab: len(m.Tables)}
	for _, f := range m.Funcs {
		for _, b := range f.Blocks {
			for _, ins := range b.Ins {
				count, is := counts[ins.Op]
				bad = bad || is && (ins.Sym < 0 || ins.Sym >= count)
			}
		}
	}
	for _, t := range m.Tables {
		for _, n := range t.Funcs {
			bad = bad || n < -1 || n >= len(m.Funcs)
		}
	}
	return bad
}

func flowInWords(m api.Module) bool {
	bad := false
	for _, f := range m.Funcs {
		prev, reach := flow.Prev(f), flow.Reach(f)
		for b, block := range f.Blocks {
			bad = bad || len(block.Ins) == 0 || !reach[b]
			other := false
			for i, ins := range block.Ins {
				end := ins.Op >= api.Jump && ins.Op <= api.Stop
				bad = bad || end != (i+1 == len(block.Ins))
				bad = bad || ins.Op == api.Phi && (other || b == 0 || !slices.Equal(ins.Into, prev[b]))
				other = other || ins.Op != api.Phi
				for k, to := range ins.Into {
					bad = bad || end && (to <= 0 || to >= len(f.Blocks) || slices.Contains(ins.Into[:k], to))
				}
			}
		}
	}
	return bad
}

func useInWords(m api.Module) bool {
	bad := false
	for _, f := range m.Funcs {
		next := len(f.Params)
		home := make(map[int][2]int)
		for b, block := range f.Blocks {
			for i, ins := range block.Ins {
				if ins.Type != 0 {
					next++
					bad = bad || ins.To != next
					home[next] = [2]int{b, i}
				}
			}
		}
		for b, block := range f.Blocks {
			for i, ins := range block.Ins {
				for k, arg := range ins.Args {
					at, given := home[arg]
					switch {
					case arg >= 1 && arg <= len(f.Params):
					case !given:
						bad = true
					case ins.Op == api.Phi:
						bad = bad || !dom.Dom(f, at[0], ins.Into[k])
					default:
						bad = bad || !(at[0] == b && at[1] < i || at[0] != b && dom.Dom(f, at[0], b))
					}
				}
			}
		}
	}
	return bad
}

// typeRow is what an Op gives and takes, where these are always the same.
type typeRow struct {
	gives int
	takes []int
}

var typeRows = makeTypeRows()

func makeTypeRows() map[int]typeRow {
	rows := map[int]typeRow{
		api.FunOf: {api.Fun, nil}, api.GloOf: {api.Ptr, nil}, api.Room: {api.Ptr, nil},
		api.Eq: {api.I1, []int{api.I64, api.I64}}, api.Lt: {api.I1, []int{api.I64, api.I64}}, api.Not: {api.I1, []int{api.I1}},
		api.At: {api.Ptr, []int{api.Ptr, api.I64}}, api.Load: {api.I64, []int{api.Ptr}}, api.Store: {0, []int{api.Ptr, api.I64}},
		api.Tab: {api.Fun, []int{api.I64}}, api.Jump: {0, nil}, api.Br: {0, []int{api.I1}}, api.Stop: {0, nil},
	}
	for _, op := range []int{api.Add, api.Sub, api.Mul, api.Div, api.Rem, api.And, api.Or, api.Xor, api.Shl, api.Shr} {
		rows[op] = typeRow{api.I64, []int{api.I64, api.I64}}
	}
	return rows
}

func typeInWords(m api.Module) bool {
	bad := false
	for _, f := range m.Funcs {
		types := ir.Types(f)
		for _, b := range f.Blocks {
			for _, ins := range b.Ins {
				var takes []int
				for _, arg := range ins.Args {
					takes = append(takes, types[arg])
				}
				bad = bad || !fitsInWords(m, f, ins, takes)
			}
		}
	}
	return bad
}

func fitsInWords(m api.Module, f api.Func, ins api.Ins, takes []int) bool {
	if r, is := typeRows[ins.Op]; is {
		return ins.Type == r.gives && slices.Equal(takes, r.takes)
	}
	switch ins.Op {
	case api.Num:
		return ins.Type == api.I64 || ins.Type == api.I1 && uint64(ins.Num) < 2
	case api.Sel:
		return takes[0] == api.I1 && takes[1] == ins.Type && takes[2] == ins.Type
	case api.Via:
		return takes[0] == api.Fun && ins.Type != api.Ptr
	case api.Call:
		return slices.Equal(takes, m.Funcs[ins.Sym].Params) && ins.Type == m.Funcs[ins.Sym].Result
	case api.Ext:
		return slices.Equal(takes, m.Externs[ins.Sym].Params) && ins.Type == m.Externs[ins.Sym].Result
	case api.Phi:
		return slices.Min(takes) == ins.Type && slices.Max(takes) == ins.Type
	}
	if f.Result == 0 {
		return len(takes) == 0
	}
	return len(takes) == 1 && takes[0] == f.Result
}

func wantWords(t *testing.T, what string, m api.Module) api.Errno {
	t.Helper()
	want := inWords(m)
	if got := Check(m); got != want {
		t.Fatalf("P6.3: Check: %s: %d, not %d: %+v", what, got, want, m)
	}
	return want
}

// TestWordsOfFaults holds the words themselves against the tables.
func TestWordsOfFaults(t *testing.T) {
	for _, f := range faults() {
		if got := inWords(changed(in(1, f.bad))); got != f.e {
			t.Errorf("the words, of %s: %d, not %d", f.name, got, f.e)
		}
		if got := inWords(changed(in(1, f.good))); got != api.OK {
			t.Errorf("the words, of what is beside %s: %d", f.name, got)
		}
	}
}

// turnPart makes a number, a flag, a text or a list another one, in several ways one after the other, and at last what it was.
func turnPart(part reflect.Value, look func()) {
	was := reflect.New(part.Type()).Elem()
	was.Set(part)
	switch part.Kind() {
	case reflect.Int, reflect.Int64:
		for _, n := range oddNumbers() {
			part.SetInt(int64(n))
			look()
		}
	case reflect.Bool:
		part.SetBool(!part.Bool())
		look()
	case reflect.String:
		for _, s := range []string{"", "a", "loop0", "x1", "Z", "far_too_long_a_name"} {
			part.SetString(s)
			look()
		}
	case reflect.Slice:
		turnList(part, was, look)
	}
	part.Set(was)
}

// turnList drops each of the items by itself, has each of them twice, has the list the other way about, and longer.
func turnList(part, was reflect.Value, look func()) {
	none := reflect.MakeSlice(was.Type(), 0, 0)
	part.Set(none)
	look()
	about := none
	for i := range was.Len() {
		part.Set(reflect.AppendSlice(reflect.AppendSlice(none, was.Slice(0, i)), was.Slice(i+1, was.Len())))
		look()
		part.Set(reflect.AppendSlice(reflect.AppendSlice(none, was.Slice(0, i+1)), was.Slice(i, was.Len())))
		look()
		about = reflect.Append(about, was.Index(was.Len()-1-i))
	}
	part.Set(about)
	look()
	part.Set(reflect.Append(reflect.AppendSlice(none, was), reflect.Zero(was.Type().Elem())))
	look()
}

func TestWhateverIsTurned(t *testing.T) {
	m := base()
	seen := make(map[api.Errno]int)
	eachPart(&m, func(what string, part reflect.Value) {
		turnPart(part, func() { seen[wantWords(t, what, m)]++ })
	})
	for _, e := range append(order(), api.OK) {
		if seen[e] < 10 {
			t.Errorf("the test has only %d modules of %d", seen[e], e)
		}
	}
}

// numbersOf are the parts of m that are numbers.
func numbersOf(m *api.Module) []reflect.Value {
	var parts []reflect.Value
	eachPart(m, func(_ string, part reflect.Value) {
		if part.Kind() == reflect.Int || part.Kind() == reflect.Int64 {
			parts = append(parts, part)
		}
	})
	return parts
}

// TestThrownChanges has some numbers of base be others at once.
func TestThrownChanges(t *testing.T) {
	thrown := dice(1)
	m := base()
	parts := numbersOf(&m)
	for range 4000 {
		var turned []reflect.Value
		var was []int64
		for range 1 + thrown.below(4) {
			part := parts[thrown.below(len(parts))]
			turned, was = append(turned, part), append(was, part.Int())
			part.SetInt(int64(thrown.odd()))
		}
		wantWords(t, "thrown changes", m)
		for i := len(turned) - 1; i >= 0; i-- {
			turned[i].SetInt(was[i])
		}
	}
	wantCheck(t, "base again", m, api.OK)
}

func (d *dice) odds(most int) []int {
	list := make([]int, 0, most)
	for range d.below(most + 1) {
		list = append(list, d.odd())
	}
	return list
}

// TestThrownModules: hardly any of them may be.
func TestThrownModules(t *testing.T) {
	thrown := dice(2)
	for range 3000 {
		m := base()
		for range 1 + thrown.below(3) {
			f := api.Func{Name: "thrown", Params: repeat(api.I64, thrown.below(3)), Result: thrown.below(3)}
			for range thrown.below(5) {
				var b api.Block
				for range thrown.below(4) {
					ins := api.Ins{Op: api.Num + thrown.below(api.Stop), Type: thrown.below(5), To: thrown.below(7), Args: thrown.odds(3), Into: thrown.odds(2)}
					if thrown.below(9) == 0 {
						ins.Op, ins.Sym, ins.Num = thrown.odd(), thrown.odd(), int64(thrown.odd())
					}
					b.Ins = append(b.Ins, ins)
				}
				f.Blocks = append(f.Blocks, b)
			}
			m.Funcs[thrown.below(len(m.Funcs))] = f
		}
		wantWords(t, "thrown", m)
	}
}

// typesOf gives all lists of that many types, 1 to 4.
func typesOf(count int) [][]int {
	lists := [][]int{nil}
	for range count {
		var longer [][]int
		for _, list := range lists {
			for typ := api.I64; typ <= api.Fun; typ++ {
				longer = append(longer, append(slices.Clone(list), typ))
			}
		}
		lists = longer
	}
	return lists
}

// TestTypesOfEachOp gives each Op each type, and Args of all types: a parameter's number is its type's.
func TestTypesOfEachOp(t *testing.T) {
	params := []int{api.I64, api.I1, api.Ptr, api.Fun}
	fits := make(map[int]int)
	for op := api.Num; op <= api.Store; op++ {
		for _, args := range typesOf(table[op].args) {
			for typ := api.I64; typ <= api.Fun; typ++ {
				ins := give(op, typ, 5, args...)
				if op == api.Room {
					ins.Num = 1
				}
				want := ins.Type == typeRows[op].gives && slices.Equal(args, typeRows[op].takes)
				switch op {
				case api.Num:
					want = typ == api.I64 || typ == api.I1
				case api.Sel:
					want = slices.Equal(args, []int{api.I1, typ, typ})
				case api.Store:
					ins.Type, ins.To = 0, 0
					want = slices.Equal(args, []int{api.Ptr, api.I64})
				}
				e := api.ErrType
				if want {
					e = api.OK
					fits[op]++
				}
				if got := Check(changed(in(0, as(function(params, 0, row(ins, take(api.Ret))))))); got != e {
					t.Errorf("P6.3: Check of %+v: %d, not %d", ins, got, e)
				}
			}
		}
		if fits[op] == 0 {
			t.Errorf("the test has no Ins of Op %d that fits", op)
		}
	}
}

// TestTypesOfCalls has functions and externs of all Params up to two, called with all Args, and what is answered.
func TestTypesOfCalls(t *testing.T) {
	params := []int{api.I64, api.I1, api.Ptr, api.Fun}
	caller := func(ins api.Ins) api.Func {
		return api.Func{Name: "f", Params: params, Blocks: []api.Block{row(ins, take(api.Ret))}}
	}
	var all [][]int
	for count := range 3 {
		all = append(all, typesOf(count)...)
	}
	for _, takes := range all {
		for result := 0; result <= api.Fun; result++ {
			callee := api.Func{Name: "g", Params: takes, Result: result, Blocks: []api.Block{row(take(api.Stop))}}
			extern := api.Extern{Name: "e", Params: takes, Result: result}
			for _, args := range all {
				for typ := 0; typ <= api.Fun; typ++ {
					ins := with(give(api.Call, typ, 5*min(typ, 1), args...), 1)
					wantWords(t, "a Call", api.Module{Funcs: []api.Func{caller(ins), callee}})
					ins.Op, ins.Sym = api.Ext, 0
					wantWords(t, "an Ext", api.Module{Externs: []api.Extern{extern}, Funcs: []api.Func{caller(ins)}})
					ins.Op = api.Via
					wantWords(t, "a Via", api.Module{Funcs: []api.Func{caller(ins)}})
				}
			}
		}
	}
}

// TestTypesOfPhisAndEnds: all types of a Phi's entries, of what a Br goes by, of what is answered.
func TestTypesOfPhisAndEnds(t *testing.T) {
	params := []int{api.I64, api.I1, api.Ptr, api.Fun}
	for typ := api.I64; typ <= api.Fun; typ++ {
		for _, args := range typesOf(2) {
			f := function(params, 0, row(br(2, 1, 2)), row(jump(2)), row(phi(typ, 5, args[0], 0, args[1], 1), take(api.Ret)))
			e := api.ErrType
			if args[0] == typ && args[1] == typ {
				e = api.OK
			}
			wantCheck(t, "a Phi", changed(in(1, as(f))), e)
		}
		e := api.ErrType
		if typ == api.I1 {
			e = api.OK
		}
		wantCheck(t, "a Br", changed(in(1, as(function(params, 0, row(br(typ, 1, 2)), row(take(api.Ret)), row(take(api.Ret)))))), e)
	}
	for _, result := range []int{0, api.I64, api.I1, api.Fun} {
		for arg := 0; arg <= api.Fun; arg++ {
			ret := take(api.Ret)
			if arg > 0 {
				ret.Args = []int{arg}
			}
			e := api.ErrType
			if arg == result {
				e = api.OK
			}
			wantCheck(t, "a Ret", changed(in(1, as(function(params, result, row(ret))))), e)
		}
	}
}

func TestNumsOfI1(t *testing.T) {
	for _, n := range []int64{math.MinInt64, -2, -1, 0, 1, 2, 3, 1 << 32, 1<<32 + 1, math.MinInt64 + 1, math.MaxInt64} {
		e := api.ErrType
		if n == 0 || n == 1 {
			e = api.OK
		}
		wantCheck(t, "a Num of I1", changed(in(0, as(function(nil, 0, row(num(api.I1, 1, n), take(api.Ret)))))), e)
		wantCheck(t, "a Num of I64", changed(in(0, as(function(nil, 0, row(num(api.I64, 1, n), take(api.Ret)))))), api.OK)
	}
}
