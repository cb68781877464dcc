package text

import (
	"math"
	"reflect"
	"strconv"
	"strings"
	"testing"

	"planish/api"
	"planish/wf"
)

func TestPrintOfTheSample(t *testing.T) { wantPrint(t, "the sample", sampleModule(), sampleText) }

func TestPrintOfNothing(t *testing.T) {
	wantPrint(t, "nothing", api.Module{}, "")
	wantPrint(t, "empty lists", api.Module{Externs: []api.Extern{}, Globals: []api.Global{}, Tables: []api.Table{}, Funcs: []api.Func{}}, "")
}

// TestPrintOfWhatMayNotBe has each of Check's errors, by itself, ahead of others, and in a module that is else printed.
func TestPrintOfWhatMayNotBe(t *testing.T) {
	f := func(blocks ...api.Block) api.Module {
		return api.Module{Funcs: []api.Func{{Name: "f", Params: []int{api.I64}, Result: api.I64, Blocks: blocks}}}
	}
	for _, c := range []struct {
		what string
		m    api.Module
		e    api.Errno
	}{
		{"a function without blocks", f(), api.ErrLimit},
		{"a global without cells", api.Module{Globals: []api.Global{{Name: "g"}}}, api.ErrLimit},
		{"a table without entries, with no name", api.Module{Tables: []api.Table{{Name: "T"}}}, api.ErrLimit},
		{"an Op that is none", f(row(take(31))), api.ErrForm},
		{"the Op 0", f(row(take(0))), api.ErrForm},
		{"an Op below 0", f(row(take(-1))), api.ErrForm},
		{"an extern's Result that is no type", api.Module{Externs: []api.Extern{{Name: "e", Result: 5}}}, api.ErrForm},
		{"a parameter of no type", api.Module{Funcs: []api.Func{{Name: "f", Params: []int{0}, Blocks: []api.Block{row(take(api.Ret))}}}}, api.ErrForm},
		{"a Phi of more Args than Into", f(row(jump(1)), row(api.Ins{Op: api.Phi, Type: 1, To: 2, Args: []int{1, 1}, Into: []int{0}}, take(api.Ret, 1))), api.ErrForm},
		{"a name that is none", api.Module{Funcs: []api.Func{nothing("F")}}, api.ErrName},
		{"no name", api.Module{Funcs: []api.Func{nothing("")}}, api.ErrName},
		{"two names alike", api.Module{Globals: []api.Global{{Name: "f", Cells: []int64{1}}}, Funcs: []api.Func{nothing("f")}}, api.ErrName},
		{"a function that is not there", f(row(with(take(api.Call, 1), 1, 0), take(api.Ret, 1))), api.ErrSym},
		{"a function below 0", f(row(with(take(api.Call, 1), -1, 0), take(api.Ret, 1))), api.ErrSym},
		{"a global that is not there", f(row(give(api.GloOf, api.Ptr, 2), take(api.Ret, 1))), api.ErrSym},
		{"an extern that is not there", f(row(take(api.Ext), take(api.Ret, 1))), api.ErrSym},
		{"a table that is not there", f(row(give(api.Tab, api.Fun, 2, 1), take(api.Ret, 1))), api.ErrSym},
		{"an entry that is not there", api.Module{Tables: []api.Table{{Name: "t", Funcs: []int{0}}}}, api.ErrSym},
		{"an entry below -1", api.Module{Tables: []api.Table{{Name: "t", Funcs: []int{-2}}}}, api.ErrSym},
		{"a block without an end", f(row()), api.ErrFlow},
		{"a value that is not there", f(row(take(api.Ret, 2))), api.ErrUse},
		{"types that do not fit", f(row(take(api.Ret))), api.ErrType},
	} {
		wantNoPrint(t, c.what, c.m, c.e)
		if e := wf.Check(c.m); e != c.e {
			t.Errorf("the test has %s as %d, but Check says %d", c.what, c.e, e)
		}
	}
	m := sampleModule()
	m.Funcs[4].Blocks[0].Ins[0] = take(api.Ret)
	wantNoPrint(t, "the sample, with a fault at its end", m, api.ErrType)
	m.Funcs[4].Name = "main"
	wantNoPrint(t, "the sample, with two faults", m, api.ErrName)
}

func TestPrintOfParts(t *testing.T) {
	main, mainText := nothing("main"), "func main none\n^0\nret\n"
	out := nothing("o")
	out.Out = true
	for _, c := range []struct {
		m    api.Module
		text string
	}{
		{api.Module{Externs: []api.Extern{{Name: "e"}}}, "extern e none\n"},
		{api.Module{Externs: []api.Extern{{Name: "e", Result: api.I64}}}, "extern e i64\n"},
		{api.Module{Externs: []api.Extern{{Name: "e", Result: api.I1, Params: []int{api.I1}}}}, "extern e i1 i1\n"},
		{api.Module{Externs: []api.Extern{{Name: "e", Params: []int{api.I64, api.I1}}, {Name: "d", Params: []int{api.I1, api.I64}}}}, "extern e none i64 i1\nextern d none i1 i64\n"},
		{api.Module{Externs: []api.Extern{{Name: "e", Params: []int{1, 2, 1, 2, 2}}}}, "extern e none i64 i1 i64 i1 i1\n"},
		{api.Module{Globals: []api.Global{{Name: "g", Cells: []int64{0}}}}, "global g 0\n"},
		{api.Module{Globals: []api.Global{{Name: "g", Cells: []int64{5, -5}}, {Name: "f", Cells: []int64{1}}}}, "global g 5 -5\nglobal f 1\n"},
		{api.Module{Globals: []api.Global{{Name: "g", Cells: make([]int64, 16)}}}, "global g" + strings.Repeat(" 0", 16) + "\n"},
		{api.Module{Tables: []api.Table{{Name: "t", Funcs: []int{-1}}}}, "table t -\n"},
		{api.Module{Tables: []api.Table{{Name: "t", Funcs: []int{-1, -1}}, {Name: "s", Funcs: []int{-1}}}}, "table t - -\ntable s -\n"},
		{api.Module{Tables: []api.Table{{Name: "t", Funcs: []int{0, -1, 1}}}, Funcs: []api.Func{main, out}}, "table t main - o\n" + mainText + "out o none\n^0\nret\n"},
		{api.Module{Funcs: []api.Func{main}}, mainText},
		{api.Module{Funcs: []api.Func{out, main}}, "out o none\n^0\nret\n" + mainText},
		{api.Module{
			Funcs: []api.Func{main}, Tables: []api.Table{{Name: "t", Funcs: []int{0}}},
			Globals: []api.Global{{Name: "g", Cells: []int64{1}}}, Externs: []api.Extern{{Name: "e"}},
		}, "extern e none\nglobal g 1\ntable t main\n" + mainText},
		{api.Module{Funcs: []api.Func{{Name: "abcdefghijkl", Params: []int{1, 2, 3, 4, 1}, Result: api.Fun, Blocks: []api.Block{row(take(api.Stop))}}}}, "func abcdefghijkl fun i64 i1 ptr fun i64\n^0\nstop\n"},
		{api.Module{Funcs: []api.Func{{Name: "f", Out: true, Params: []int{1}, Result: api.I1, Blocks: []api.Block{row(take(api.Stop))}}}}, "out f i1 i64\n^0\nstop\n"},
	} {
		wantPrint(t, c.text, c.m, c.text)
		wantParse(t, c.text, c.m)
	}
}

// inFrame has that Ins behind others that give a value of each type, in a module that has two of all that has a name.
func inFrame(ins api.Ins) api.Module {
	var m api.Module
	for _, k := range []string{"0", "1"} {
		m.Externs = append(m.Externs, api.Extern{Name: "e" + k}, api.Extern{Name: "ask" + k, Params: []int{1, 2, 1, 2, 1}, Result: api.I1})
		m.Globals = append(m.Globals, api.Global{Name: "g" + k, Cells: []int64{1}})
		m.Tables = append(m.Tables, api.Table{Name: "t" + k, Funcs: []int{-1}})
	}
	frame := api.Func{Name: "f", Params: []int{1, 2, 3, 4}, Blocks: []api.Block{row(ins, take(api.Stop))}}
	five := api.Func{Name: "five", Params: []int{1, 1, 1, 1, 1}, Result: api.I64, Blocks: []api.Block{row(take(api.Stop))}}
	m.Funcs = []api.Func{frame, nothing("plain"), five}
	return m
}

// frameText is what is printed of inFrame.
func frameText(line string) string {
	return "extern e0 none\nextern ask0 i1 i64 i1 i64 i1 i64\nextern e1 none\nextern ask1 i1 i64 i1 i64 i1 i64\nglobal g0 1\nglobal g1 1\ntable t0 -\ntable t1 -\n" +
		"func f none i64 i1 ptr fun\n^0\n" + line + "\nstop\nfunc plain none\n^0\nret\nfunc five i64 i64 i64 i64 i64 i64\n^0\nstop\n"
}

func TestEachWord(t *testing.T) {
	for _, c := range []struct {
		ins  api.Ins
		line string
	}{
		{with(give(api.Num, api.I64, 5), 0, 7), "%5 i64 = num 7"},
		{with(give(api.Num, api.I1, 5), 0, 0), "%5 i1 = num 0"},
		{give(api.FunOf, api.Fun, 5), "%5 fun = fun f"},
		{with(give(api.FunOf, api.Fun, 5), 2, 0), "%5 fun = fun five"},
		{give(api.GloOf, api.Ptr, 5), "%5 ptr = glo g0"},
		{with(give(api.GloOf, api.Ptr, 5), 1, 0), "%5 ptr = glo g1"},
		{give(api.Add, api.I64, 5, 1, 1), "%5 i64 = add %1 %1"},
		{give(api.Sub, api.I64, 5, 1, 1), "%5 i64 = sub %1 %1"},
		{give(api.Mul, api.I64, 5, 1, 1), "%5 i64 = mul %1 %1"},
		{give(api.Div, api.I64, 5, 1, 1), "%5 i64 = div %1 %1"},
		{give(api.Rem, api.I64, 5, 1, 1), "%5 i64 = rem %1 %1"},
		{give(api.And, api.I64, 5, 1, 1), "%5 i64 = and %1 %1"},
		{give(api.Or, api.I64, 5, 1, 1), "%5 i64 = or %1 %1"},
		{give(api.Xor, api.I64, 5, 1, 1), "%5 i64 = xor %1 %1"},
		{give(api.Shl, api.I64, 5, 1, 1), "%5 i64 = shl %1 %1"},
		{give(api.Shr, api.I64, 5, 1, 1), "%5 i64 = shr %1 %1"},
		{give(api.Eq, api.I1, 5, 1, 1), "%5 i1 = eq %1 %1"},
		{give(api.Lt, api.I1, 5, 1, 1), "%5 i1 = lt %1 %1"},
		{give(api.Not, api.I1, 5, 2), "%5 i1 = not %2"},
		{give(api.Sel, api.I64, 5, 2, 1, 1), "%5 i64 = sel %2 %1 %1"},
		{give(api.Sel, api.I1, 5, 2, 2, 2), "%5 i1 = sel %2 %2 %2"},
		{give(api.Sel, api.Ptr, 5, 2, 3, 3), "%5 ptr = sel %2 %3 %3"},
		{give(api.Sel, api.Fun, 5, 2, 4, 4), "%5 fun = sel %2 %4 %4"},
		{with(give(api.Room, api.Ptr, 5), 0, 1), "%5 ptr = room 1"},
		{with(give(api.Room, api.Ptr, 5), 0, 16), "%5 ptr = room 16"},
		{give(api.At, api.Ptr, 5, 3, 1), "%5 ptr = at %3 %1"},
		{give(api.Load, api.I64, 5, 3), "%5 i64 = load %3"},
		{take(api.Store, 3, 1), "store %3 %1"},
		{with(take(api.Call), 1, 0), "call plain"},
		{with(take(api.Call, 1, 2, 3, 4), 0, 0), "call f %1 %2 %3 %4"},
		{with(give(api.Call, api.I64, 5, 1, 1, 1, 1, 1), 2, 0), "%5 i64 = call five %1 %1 %1 %1 %1"},
		{take(api.Ext), "ext e0"},
		{with(take(api.Ext), 2, 0), "ext e1"},
		{with(give(api.Ext, api.I1, 5, 1, 2, 1, 2, 1), 3, 0), "%5 i1 = ext ask1 %1 %2 %1 %2 %1"},
		{give(api.Tab, api.Fun, 5, 1), "%5 fun = tab t0 %1"},
		{with(give(api.Tab, api.Fun, 5, 1), 1, 0), "%5 fun = tab t1 %1"},
		{take(api.Via, 4), "via %4"},
		{take(api.Via, 4, 1, 2, 3, 4, 1), "via %4 %1 %2 %3 %4 %1"},
		{give(api.Via, api.I64, 5, 4), "%5 i64 = via %4"},
		{give(api.Via, api.I1, 5, 4, 4), "%5 i1 = via %4 %4"},
		{give(api.Via, api.Fun, 5, 4, 1, 3), "%5 fun = via %4 %1 %3"},
	} {
		wantPrint(t, c.line, inFrame(c.ins), frameText(c.line))
		wantParse(t, frameText(c.line), inFrame(c.ins))
	}
}

// TestEachEnd has the words that stand at a block's end, and Phis of one entry and of more.
func TestEachEnd(t *testing.T) {
	ret := row(take(api.Ret))
	for _, c := range []struct {
		head   string
		params []int
		result int
		blocks []api.Block
		text   string
	}{
		{"func f none", nil, 0, []api.Block{ret}, "^0\nret\n"},
		{"func f none", nil, 0, []api.Block{row(take(api.Stop))}, "^0\nstop\n"},
		{"func f i64 i64", []int{1}, api.I64, []api.Block{row(take(api.Ret, 1))}, "^0\nret %1\n"},
		{"func f i1 i64 i1", []int{1, 2}, api.I1, []api.Block{row(take(api.Ret, 2))}, "^0\nret %2\n"},
		{"func f fun fun", []int{4}, api.Fun, []api.Block{row(take(api.Ret, 1))}, "^0\nret %1\n"},
		{"func f none", nil, 0, []api.Block{row(jump(1)), row(jump(2)), ret}, "^0\njump ^1\n^1\njump ^2\n^2\nret\n"},
		{"func f none i1", []int{2}, 0, []api.Block{row(br(1, 2, 1)), row(jump(1)), ret}, "^0\nbr %1 ^2 ^1\n^1\njump ^1\n^2\nret\n"},
		{"func f none ptr", []int{3}, 0, []api.Block{row(jump(1)), row(phi(api.Ptr, 2, 0, 1), take(api.Ret))}, "^0\njump ^1\n^1\n%2 ptr = phi ^0 %1\nret\n"},
		{"func f none i1 fun", []int{2, 4}, 0, []api.Block{
			row(br(1, 1, 2)), row(phi(api.Fun, 3, 0, 2, 1, 4), phi(api.Fun, 4, 0, 2, 1, 3), br(1, 2, 1)), row(phi(api.I1, 5, 0, 1, 1, 1), take(api.Ret)),
		}, "^0\nbr %1 ^1 ^2\n^1\n%3 fun = phi ^0 %2 ^1 %4\n%4 fun = phi ^0 %2 ^1 %3\nbr %1 ^2 ^1\n^2\n%5 i1 = phi ^0 %1 ^1 %1\nret\n"},
	} {
		m := api.Module{Funcs: []api.Func{{Name: "f", Params: c.params, Result: c.result, Blocks: c.blocks}}}
		wantPrint(t, c.text, m, c.head+"\n"+c.text)
		wantParse(t, c.head+"\n"+c.text, m)
	}
}

func TestNumbersAtTheEnds(t *testing.T) {
	for n, w := range map[int64]string{
		math.MinInt64: "-9223372036854775808", math.MinInt64 + 1: "-9223372036854775807", math.MaxInt64: "9223372036854775807", math.MaxInt64 - 1: "9223372036854775806",
		0: "0", 1: "1", -1: "-1", 9: "9", 10: "10", -10: "-10", 1 << 32: "4294967296", -1 << 31: "-2147483648",
	} {
		wantPrint(t, w, inFrame(with(give(api.Num, api.I64, 5), 0, n)), frameText("%5 i64 = num "+w))
		wantParse(t, frameText("%5 i64 = num "+w), inFrame(with(give(api.Num, api.I64, 5), 0, n)))
		m := api.Module{Globals: []api.Global{{Name: "g", Cells: []int64{n, 2, n}}}}
		wantPrint(t, w, m, "global g "+w+" 2 "+w+"\n")
		wantParse(t, "global g "+w+" 2 "+w+"\n", m)
	}
}

// mostModule has as many functions, blocks, values and entries as may be.
func mostModule() (api.Module, string) {
	var m api.Module
	var text strings.Builder
	for k := range api.MaxFuncs {
		name := "f" + strconv.Itoa(k)
		f := api.Func{Name: name, Params: []int{2, 2, 2, 2, 2}}
		text.WriteString("func " + name + " none i1 i1 i1 i1 i1\n")
		for b := range api.MaxBlocks - 1 {
			n := strconv.Itoa(b + 1)
			if b == api.MaxBlocks-2 {
				f.Blocks = append(f.Blocks, row(jump(b+1)))
				text.WriteString("^" + strconv.Itoa(b) + "\njump ^" + n + "\n")
			} else {
				f.Blocks = append(f.Blocks, row(br(1, b+1, api.MaxBlocks-1)))
				text.WriteString("^" + strconv.Itoa(b) + "\nbr %1 ^" + n + " ^39\n")
			}
		}
		var last api.Block
		text.WriteString("^39\n")
		for to := 6; to <= api.MaxIns-api.MaxBlocks+5; to++ {
			ins := give(api.Phi, api.I1, to)
			text.WriteString("%" + strconv.Itoa(to) + " i1 = phi")
			for b := range api.MaxBlocks - 1 {
				ins.Args, ins.Into = append(ins.Args, 5), append(ins.Into, b)
				text.WriteString(" ^" + strconv.Itoa(b) + " %5")
			}
			last.Ins = append(last.Ins, ins)
			text.WriteString("\n")
		}
		last.Ins = append(last.Ins, take(api.Ret))
		text.WriteString("ret\n")
		f.Blocks = append(f.Blocks, last)
		m.Funcs = append(m.Funcs, f)
	}
	return m, text.String()
}

func TestOfMost(t *testing.T) {
	m, text := mostModule()
	if s, e := Print(m); s != text || e != api.OK {
		t.Errorf("P8.1: Print of as much as may be: %d: %d bytes, not %d", e, len(s), len(text))
	}
	wantParse(t, text, m)
	m.Funcs[23].Blocks[0].Ins = append([]api.Ins{take(api.Via, 1)}, m.Funcs[23].Blocks[0].Ins...)
	wantNoPrint(t, "more than may be", m, api.ErrLimit)
}

// TestPrintLooksAtWhatIsThere: what lies behind the length is not read, nothing is changed, nil and empty are the same.
func TestPrintLooksAtWhatIsThere(t *testing.T) {
	for _, room := range []int{0, 1, 3} {
		m := spared(sampleModule(), room)
		before := memory(m)
		wantPrint(t, "the sample with room behind its lists", m, sampleText)
		wantPrint(t, "the sample again", m, sampleText)
		if !reflect.DeepEqual(memory(m), before) {
			t.Error("P0.4: Print changed what was handed in")
		}
	}
}
