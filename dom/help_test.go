package dom

import (
	"math"
	"reflect"
	"slices"
	"strconv"
	"testing"

	"planish/api"
)

// goes is a function whose blocks go where to says: to one a Jump, to more a Br, to none a Ret.
func goes(to ...[]int) api.Func {
	f := api.Func{Name: "f", Params: []int{api.I1}}
	for _, into := range to {
		ins := api.Ins{Op: api.Br, Args: []int{1}, Into: into}
		switch len(into) {
		case 0:
			ins = api.Ins{Op: api.Ret}
		case 1:
			ins = api.Ins{Op: api.Jump, Into: into}
		}
		f.Blocks = append(f.Blocks, api.Block{Ins: []api.Ins{ins}})
	}
	return f
}

// noBlocks are numbers that name no block of a function that has count of them.
func noBlocks(count int) []int {
	return []int{-1, -2, count, count + 1, 1 << 32, -1 << 32, 1<<32 + 1, math.MaxInt, math.MinInt, math.MinInt + 1}
}

// dice gives numbers that look thrown, the same ones in every run.
type dice uint64

func (d *dice) below(n int) int {
	*d = *d*6364136223846793005 + 1442695040888963407
	return int(uint64(*d)>>33) % n
}

// ends throws a function of that many blocks, each of which ends as it may.
func (d *dice) ends(count int) api.Func {
	var to [][]int
	for range count {
		var into []int
		for range d.below(3) {
			into = append(into, d.below(count))
		}
		to = append(to, into)
	}
	return goes(to...)
}

// odd throws a function that mostly may not be: any Ins at the end, or none, to any number of blocks, or to none such.
func (d *dice) odd() api.Func {
	count := d.below(7)
	f := api.Func{Blocks: make([]api.Block, count)}
	for b := range f.Blocks {
		for range d.below(5) {
			ins := api.Ins{Op: api.Phi + d.below(6)}
			for range d.below(5) {
				ins.Into = append(ins.Into, d.below(count))
			}
			if d.below(3) == 0 {
				strays := noBlocks(count)
				ins.Into = append(ins.Into, strays[d.below(len(strays))], d.below(count))
			}
			f.Blocks[b].Ins = append(f.Blocks[b].Ins, ins)
		}
	}
	return f
}

// words are the promises' answers of a function, found as their words say it: by trying.
type words struct {
	is           [][]bool // by a and b: is a over b?
	over         []int
	under, front [][]int
}

func inWords(f api.Func) words {
	count := len(f.Blocks)
	w := words{over: make([]int, count), under: make([][]int, count), front: make([][]int, count)}
	steps := stepsOf(f)
	reach := cameTo(steps, count, -1)
	for a := range count {
		around := cameTo(steps, count, a)
		row := make([]bool, count)
		for b := range count {
			row[b] = reach[a] && reach[b] && !around[b]
		}
		w.is = append(w.is, row)
	}
	for b := range count {
		w.over[b] = w.lowest(b)
		if w.over[b] >= 0 {
			w.under[w.over[b]] = append(w.under[w.over[b]], b)
		}
		for a := range count {
			isIn := func(s [2]int) bool { return s[1] == b && w.is[a][s[0]] && (!w.is[a][b] || a == b) }
			if slices.ContainsFunc(steps, isIn) {
				w.front[a] = append(w.front[a], b)
			}
		}
	}
	return w
}

// lowest is, of those over b, itself left out, the one that all the others are over.
func (w words) lowest(b int) int {
	for a := range w.is {
		all := a != b && w.is[a][b]
		for other := range w.is {
			all = all && (other == b || !w.is[other][b] || w.is[other][a])
		}
		if all {
			return a
		}
	}
	return -1
}

// stepsOf are the pairs of a block and one that it goes to.
func stepsOf(f api.Func) [][2]int {
	var steps [][2]int
	for b, block := range f.Blocks {
		if len(block.Ins) == 0 {
			continue
		}
		last := block.Ins[len(block.Ins)-1]
		for _, to := range last.Into {
			if (last.Op == api.Jump || last.Op == api.Br) && to >= 0 && to < len(f.Blocks) {
				steps = append(steps, [2]int{b, to})
			}
		}
	}
	return steps
}

// cameTo tells which blocks a way leads to from block 0 that goes nowhere through the block without.
func cameTo(steps [][2]int, count, without int) []bool {
	came := make([]bool, count)
	for b := range came {
		came[b] = b == 0 && without != 0
	}
	for range count {
		for _, s := range steps {
			came[s[1]] = came[s[1]] || came[s[0]] && s[1] != without
		}
	}
	return came
}

// wantWords asks that all four calls answer f as the promises' words say it.
func wantWords(t *testing.T, f api.Func) {
	t.Helper()
	want := inWords(f)
	for a, row := range want.is {
		for b, is := range row {
			wantDom(t, f, a, b, is)
		}
	}
	wantList(t, "P5.1: Over", Over(f), want.over)
	wantLists(t, "P5.1: Under", Under(f), want.under)
	wantLists(t, "P5.2: Front", Front(f), want.front)
	if t.Failed() {
		t.Fatalf("of %+v", f)
	}
}

func wantDom(t *testing.T, f api.Func, a, b int, want bool) {
	t.Helper()
	if got := Dom(f, a, b); got != want {
		t.Errorf("P5.1: Dom of %d and %d: %v, not %v", a, b, got, want)
	}
}

func wantList(t *testing.T, call string, got, want []int) {
	t.Helper()
	if !slices.Equal(got, want) {
		t.Errorf("%s: %v, not %v", call, got, want)
	}
}

func wantLists(t *testing.T, call string, got, want [][]int) {
	t.Helper()
	if !slices.EqualFunc(got, want, slices.Equal[[]int]) {
		t.Errorf("%s: %v, not %v", call, got, want)
	}
}

// roomy is f with room behind its lists, in which stand steps that would lead elsewhere.
func roomy(f api.Func) api.Func {
	stray := api.Block{Ins: []api.Ins{{Op: api.Jump, Into: []int{0}}}}
	var blocks []api.Block
	for _, b := range f.Blocks {
		var list []api.Ins
		for _, ins := range b.Ins {
			ins.Into = append(slices.Clip(ins.Into), 0, 0)[:len(ins.Into)]
			list = append(list, ins)
		}
		blocks = append(blocks, api.Block{Ins: append(list, stray.Ins...)[:len(list)]})
	}
	f.Blocks = append(blocks, stray)[:len(blocks)]
	return f
}

// memory is a copy of f with what lies behind the length of its lists.
func memory(f api.Func) api.Func {
	f.Blocks = slices.Clone(whole(f.Blocks))
	for b := range f.Blocks {
		list := slices.Clone(whole(f.Blocks[b].Ins))
		for i := range list {
			list[i].Into = slices.Clone(whole(list[i].Into))
		}
		f.Blocks[b].Ins = list
	}
	return f
}

func whole[T any](list []T) []T { return list[:cap(list)] }

// wantLeft asks that f's memory is as it was before.
func wantLeft(t *testing.T, call string, f, before api.Func) {
	t.Helper()
	if !reflect.DeepEqual(memory(f), before) {
		t.Errorf("P0.4: %s: what was handed in is changed: %+v, not %+v", call, memory(f), before)
	}
}

// wantApart writes into each of the lists, and into its spare room, and asks that the others do not show it.
func wantApart(t *testing.T, call string, lists [][]int) {
	t.Helper()
	for i, list := range lists {
		fill(list, 1000+i)
	}
	for i, list := range lists {
		for _, n := range whole(list) {
			if n != 1000+i {
				t.Errorf("P0.4: %s: list %s shares memory with another one", call, strconv.Itoa(i))
			}
		}
	}
}

func fill(list []int, with int) {
	list = whole(list)
	for i := range list {
		list[i] = with
	}
}
