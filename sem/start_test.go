package sem

import (
	"math"
	"testing"

	"planish/api"
	"planish/ir"
	"planish/wf"
)

// startText has functions that are Out and others, each with another thing of nearly the same name.
const startText = `extern e none
global g 4
table t f
out f i64 i64 i1
^0
ret %1
func h i64 i64 i1
^0
ret %1
out none none
^0
ret
out fo i1 i1
^0
ret %1
out five i64 i1 i64 i1 i64 i1
^0
ret %4
`

// Check's errors are Start's, with a name and args that would do, and ahead of the errors of those that do not.
func TestStartOfModulesThatMayNotBe(t *testing.T) {
	for _, c := range []struct {
		what   string
		e      api.Errno
		change func(m *api.Module)
	}{
		{"a global without cells", api.ErrLimit, func(m *api.Module) { m.Globals[0].Cells = nil }},
		{"too many tables", api.ErrLimit, func(m *api.Module) { m.Tables = make([]api.Table, api.MaxTables+1) }},
		{"an Op that is none", api.ErrForm, func(m *api.Module) { m.Funcs[4].Blocks[0].Ins[0].Op = 31 }},
		{"a parameter that is no type", api.ErrForm, func(m *api.Module) { m.Funcs[0].Params[1] = 5 }},
		{"a pointer handed in from outside", api.ErrForm, func(m *api.Module) { m.Funcs[0].Params[1] = api.Ptr }},
		{"an empty name", api.ErrName, func(m *api.Module) { m.Funcs[0].Name = "" }},
		{"two names alike", api.ErrName, func(m *api.Module) { m.Funcs[1].Name = "f" }},
		{"an entry that is no function", api.ErrSym, func(m *api.Module) { m.Tables[0].Funcs[0] = 5 }},
		{"a block of nothing", api.ErrFlow, func(m *api.Module) { m.Funcs[1].Blocks[0].Ins = nil }},
		{"a jump to block 0", api.ErrFlow, func(m *api.Module) { m.Funcs[2].Blocks[0].Ins[0] = api.Ins{Op: api.Jump, Into: []int{0}} }},
		{"a value that is not there", api.ErrUse, func(m *api.Module) { m.Funcs[4].Blocks[0].Ins[0].Args[0] = 6 }},
		{"an answer of another type", api.ErrType, func(m *api.Module) { m.Funcs[4].Blocks[0].Ins[0].Args[0] = 1 }},
		{"no answer", api.ErrType, func(m *api.Module) { m.Funcs[0].Blocks[0].Ins[0].Args = nil }},
		{"an empty name, and no cells", api.ErrLimit, func(m *api.Module) { m.Funcs[0].Name, m.Globals[0].Cells = "", nil }},
		{"no answer, and an Op that is none", api.ErrForm, func(m *api.Module) {
			m.Funcs[0].Blocks[0].Ins[0].Args, m.Funcs[4].Blocks[0].Ins[0].Op = nil, -1
		}},
	} {
		m := ir.Copy(parsed(t, startText))
		c.change(&m)
		if e := wf.Check(m); e != c.e {
			t.Fatalf("the test has %s as %d, but Check says %d", c.what, c.e, e)
		}
		wantNoStart(t, c.what, m, "f", []int64{5, 1}, c.e)
		wantNoStart(t, c.what+", and a name of none", m, "nobody", []int64{5, 1}, c.e)
		wantNoStart(t, c.what+", and the empty name", m, "", nil, c.e)
		wantNoStart(t, c.what+", and too few args", m, "f", []int64{5}, c.e)
		wantNoStart(t, c.what+", and an I1 of 2", m, "f", []int64{5, 2}, c.e)
	}
}

func TestStartOfNames(t *testing.T) {
	m := parsed(t, startText)
	for _, name := range []string{"", "F", "x", "ff", "fi", "f ", " f", "f\x00", "e", "g", "t", "h", "i", "n", "\xff", "five0", "a name that is longer than any may be"} {
		wantNoStart(t, "the name "+name, m, name, []int64{5, 1}, api.ErrSym)
		wantNoStart(t, "the name "+name+", with no args", m, name, nil, api.ErrSym)
		wantNoStart(t, "the name "+name+", with an I1 of 2", m, name, []int64{5, 2}, api.ErrSym)
	}
	for _, source := range []string{"", "global f 1", "extern f none", "table f -", "func f none;^0;ret", "func f none;^0;ret;out g none;^0;ret"} {
		wantNoStart(t, source, parsed(t, source), "f", nil, api.ErrSym)
	}
	wantNoStart(t, "no module at all", api.Module{}, "", nil, api.ErrSym)
}

// The function that has the name is run, wherever it stands.
func TestStartTakesTheOneOfThatName(t *testing.T) {
	source := "out a i64;^0;%1 i64 = num 1;ret %1;func b i64;^0;%1 i64 = num 2;ret %1;out c i64;^0;%1 i64 = num 3;ret %1;out cc i64;^0;%1 i64 = num 4;ret %1"
	m := parsed(t, source)
	for name, want := range map[string]string{"a": "returned 1 in 1", "c": "returned 3 in 1", "cc": "returned 4 in 1"} {
		run, e := Run(m, name, nil, nil, plenty)
		if told(run) != want || e != api.OK {
			t.Errorf("P11.1: Run of %s: %s, %d", name, told(run), e)
		}
	}
	wantNoStart(t, "one that is not Out among such as are", m, "b", nil, api.ErrSym)
}

func TestStartOfArgs(t *testing.T) {
	m := parsed(t, startText)
	for _, c := range []struct {
		name string
		args []int64
		want string
	}{
		{"f", []int64{5, 0}, "returned 5 in 1"},
		{"f", []int64{5, 1}, "returned 5 in 1"},
		{"f", []int64{math.MinInt64, 1}, "returned -9223372036854775808 in 1"},
		{"f", []int64{math.MaxInt64, 0}, "returned 9223372036854775807 in 1"},
		{"fo", []int64{0}, "returned in 1"},
		{"fo", []int64{1}, "returned 1 in 1"},
		{"none", nil, "returned in 1"},
		{"none", []int64{}, "returned in 1"},
		{"five", []int64{0, 11, 1, 12, 0}, "returned 12 in 1"},
	} {
		run, e := Run(m, c.name, c.args, nil, plenty)
		if told(run) != c.want || e != api.OK {
			t.Errorf("P11.1: Run of %s with %v: %s, %d, not %s", c.name, c.args, told(run), e, c.want)
		}
	}
	for _, c := range []struct {
		name string
		args []int64
	}{
		{"f", nil}, {"f", []int64{}}, {"f", []int64{1}}, {"f", []int64{1, 1, 1}}, {"f", []int64{1, 0, 0, 0, 0, 0, 0}},
		{"none", []int64{0}}, {"none", []int64{1, 2}}, {"fo", nil}, {"fo", []int64{1, 1}}, {"fo", []int64{7}},
		{"five", []int64{0, 11, 1, 12}}, {"five", []int64{0, 11, 1, 12, 0, 0}}, {"five", make([]int64, 1000)},
	} {
		wantNoStart(t, "args that do not fit", m, c.name, c.args, api.ErrType)
	}
}

func TestStartOfBits(t *testing.T) {
	m := parsed(t, startText)
	none := []int64{2, -1, 3, -2, 255, 256, 257, 1 << 8, 1 << 32, 1<<32 + 1, -1 << 32, math.MinInt64, math.MinInt64 + 1, math.MaxInt64, math.MaxInt64 - 1}
	for _, n := range none {
		wantNoStart(t, "an I1 of none", m, "fo", []int64{n}, api.ErrType)
		wantNoStart(t, "an I1 of none behind an I64", m, "f", []int64{n, n}, api.ErrType)
		for k := 0; k < 5; k += 2 {
			args := []int64{0, n, 1, n, 0}
			args[k] = n
			wantNoStart(t, "an I1 of none among others", m, "five", args, api.ErrType)
		}
		run, e := Run(m, "five", []int64{1, n, 0, n, 1}, nil, plenty)
		if run.Value != n || e != api.OK {
			t.Errorf("P11.1: I64 of %d: %s, %d", n, told(run), e)
		}
	}
}

// A machine that was just started has done nothing, even where nothing costs at its beginning.
func TestStarted(t *testing.T) {
	for _, source := range []string{
		"out f none;^0;ret", "out f none;^0;stop", "out f i64;^0;%1 i64 = num 5;ret %1",
		"extern e i64;out f i64;^0;%1 i64 = ext e;ret %1", "out f none;^0;call f;ret",
	} {
		x := running{parsed(t, source), "f", nil, []int64{1, 2}}.started(t)
		for range 3 {
			if told(x.Told()) != "runs in 0" || x.Depth() != 1 {
				t.Errorf("P11.1: just started %s: %s, Depth %d", source, told(x.Told()), x.Depth())
			}
		}
	}
}

func TestRunOfFuels(t *testing.T) {
	source := "out f i64 i64;^0;%2 i64 = num 1;%3 i64 = add %1 %2;%4 i64 = add %3 %3;ret %4;out g none;^0;stop"
	m := parsed(t, source)
	for _, c := range []struct {
		fuel int
		want string
		e    api.Errno
	}{
		{-1, "kind 0 in 0", api.ErrRange}, {math.MinInt, "kind 0 in 0", api.ErrRange}, {-1 << 32, "kind 0 in 0", api.ErrRange},
		{api.MaxFuel + 1, "kind 0 in 0", api.ErrRange}, {math.MaxInt, "kind 0 in 0", api.ErrRange}, {1 << 32, "kind 0 in 0", api.ErrRange},
		{0, "runs in 0", api.OK}, {1, "runs in 1", api.OK}, {2, "runs in 2", api.OK},
		{3, "returned 12 in 3", api.OK}, {4, "returned 12 in 3", api.OK}, {api.MaxFuel - 1, "returned 12 in 3", api.OK}, {api.MaxFuel, "returned 12 in 3", api.OK},
	} {
		run, e := Run(m, "f", []int64{5}, nil, c.fuel)
		if told(run) != c.want || e != c.e {
			t.Errorf("P11.3: Run with fuel %d: %s, %d, not %s, %d", c.fuel, told(run), e, c.want, c.e)
		}
	}
	for fuel, want := range []string{"runs in 0", "trapped by 5 in 1", "trapped by 5 in 1"} {
		if run, e := Run(m, "g", nil, nil, fuel); told(run) != want || e != api.OK {
			t.Errorf("P11.3: Run of a Stop with fuel %d: %s, %d", fuel, told(run), e)
		}
	}
}
