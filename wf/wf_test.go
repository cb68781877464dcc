package wf

import (
	"math"
	"strings"
	"testing"

	"planish/api"
)

func TestName(t *testing.T) {
	longest := strings.Repeat("a", api.MaxName)
	for _, s := range []string{"a", "z", "m", "a0", "z9", "a_", "a__", "a_0_z", "main", "zzzzzzzzzzzz", "a00000000009", longest} {
		if !Name(s) {
			t.Errorf("P6.1: Name of %q: false", s)
		}
	}
	for _, s := range []string{
		"", longest + "a", longest + longest, strings.Repeat("a", 1<<20), "0", "9", "0a", "_", "_a", "A", "Z", "Aa", "aA", "aaZ",
		" ", "a ", " a", "a b", "a-b", "a.b", "-", "%1", "a\n", "\na", "a\x00", "\x00", "a\x7f", "a`", "`a", "{", "a{", "a/", "a:", "a^", "a@", "a[",
		"ä", "aä", "äa", "ａ", "aａ", "a١", "aſ", "\xff", "a\xff", "a\x80b", "\x61\xcc\x88",
	} {
		if Name(s) {
			t.Errorf("P6.1: Name of %q: true", s)
		}
	}
}

// TestNameOfEachByte has each of them first, alone and ahead of others, in between, and last.
func TestNameOfEachByte(t *testing.T) {
	for n := range 256 {
		c := string([]byte{byte(n)})
		first := strings.Contains("abcdefghijklmnopqrstuvwxyz", c)
		other := strings.Contains("abcdefghijklmnopqrstuvwxyz0123456789_", c)
		for s, want := range map[string]bool{c: first, c + "b": first, c + strings.Repeat("b", api.MaxName-1): first, c + strings.Repeat("b", api.MaxName): false} {
			if Name(s) != want {
				t.Errorf("P6.1: Name of %q: %v", s, !want)
			}
		}
		for _, s := range []string{"b" + c, "b" + c + "b", strings.Repeat("b", api.MaxName-1) + c} {
			if Name(s) != other {
				t.Errorf("P6.1: Name of %q: %v", s, !other)
			}
		}
		if s := strings.Repeat("b", api.MaxName) + c; Name(s) {
			t.Errorf("P6.1: Name of %q: true", s)
		}
	}
}

// noOps are numbers that are no Op.
func noOps() []int {
	return []int{math.MinInt, math.MinInt + 1, -1 << 32, -30, -2, -1, 0, api.Stop + 1, api.Stop + 2, 100, 256 + api.Br, 1<<32 + api.Br, math.MaxInt - 1, math.MaxInt}
}

func TestEnds(t *testing.T) {
	ends := map[int]bool{api.Jump: true, api.Br: true, api.Ret: true, api.Stop: true}
	for op := api.Num; op <= api.Stop; op++ {
		if Ends(op) != ends[op] {
			t.Errorf("P6.1: Ends of %d: %v", op, Ends(op))
		}
	}
	for _, op := range noOps() {
		if Ends(op) {
			t.Errorf("P6.1: Ends of %d, which is no Op", op)
		}
	}
}

// marked is what P6.2's table says of an Op.
type marked struct {
	args, into int
	sym, num   bool
}

var table = map[int]marked{
	api.Num:   {0, 0, false, true},
	api.FunOf: {0, 0, true, false}, api.GloOf: {0, 0, true, false},
	api.Add: {2, 0, false, false}, api.Sub: {2, 0, false, false}, api.Mul: {2, 0, false, false}, api.Div: {2, 0, false, false},
	api.Rem: {2, 0, false, false}, api.And: {2, 0, false, false}, api.Or: {2, 0, false, false}, api.Xor: {2, 0, false, false},
	api.Shl: {2, 0, false, false}, api.Shr: {2, 0, false, false}, api.Eq: {2, 0, false, false}, api.Lt: {2, 0, false, false},
	api.At: {2, 0, false, false}, api.Store: {2, 0, false, false},
	api.Not: {1, 0, false, false}, api.Load: {1, 0, false, false},
	api.Sel:  {3, 0, false, false},
	api.Room: {0, 0, false, true},
	api.Call: {-1, 0, true, false}, api.Ext: {-1, 0, true, false},
	api.Tab:  {1, 0, true, false},
	api.Via:  {-1, 0, false, false},
	api.Phi:  {-1, -1, false, false},
	api.Jump: {0, 1, false, false},
	api.Br:   {1, 2, false, false},
	api.Ret:  {-1, 0, false, false},
	api.Stop: {0, 0, false, false},
}

func wantMark(t *testing.T, op int, want marked) {
	t.Helper()
	args, into, sym, num := Mark(op)
	if got := (marked{args, into, sym, num}); got != want {
		t.Errorf("P6.2: Mark of %d: %+v, not %+v", op, got, want)
	}
}

func TestMark(t *testing.T) {
	for op := api.Num; op <= api.Stop; op++ {
		want, is := table[op]
		if !is {
			t.Errorf("the test has no row of %d", op)
		}
		wantMark(t, op, want)
	}
	for _, op := range noOps() {
		wantMark(t, op, marked{})
	}
}
