package flow

import (
	"slices"
	"strconv"
	"testing"

	"planish/api"
)

// TestNextByTheLastIns has three blocks: the first one of them is what the case says, and the call is asked of it.
func TestNextByTheLastIns(t *testing.T) {
	jump := api.Ins{Op: api.Jump, Into: []int{1}}
	for _, c := range []struct {
		name string
		list []api.Ins
		want []int
	}{
		{"no Ins", nil, nil},
		{"the empty list", []api.Ins{}, nil},
		{"a Jump", []api.Ins{{Op: api.Jump, Into: []int{2}}}, []int{2}},
		{"a Br", []api.Ins{{Op: api.Br, Args: []int{1}, Into: []int{2, 1}}}, []int{2, 1}},
		{"a Ret", []api.Ins{{Op: api.Ret}}, nil},
		{"a Ret with an Into", []api.Ins{{Op: api.Ret, Into: []int{1}}}, nil},
		{"a Stop", []api.Ins{{Op: api.Stop}}, nil},
		{"a Stop with an Into", []api.Ins{{Op: api.Stop, Into: []int{1, 2}}}, nil},
		{"a Phi", []api.Ins{{Op: api.Phi, Args: []int{1}, Into: []int{1}}}, nil},
		{"a Jump with no Into", []api.Ins{{Op: api.Jump}}, nil},
		{"a Br with no Into", []api.Ins{{Op: api.Br, Args: []int{1}}}, nil},
		{"a Jump to two", []api.Ins{{Op: api.Jump, Into: []int{2, 0}}}, []int{2, 0}},
		{"a Br to one", []api.Ins{{Op: api.Br, Into: []int{1}}}, []int{1}},
		{"a Br to three", []api.Ins{{Op: api.Br, Into: []int{2, 0, 1}}}, []int{2, 0, 1}},
		{"a Jump behind others", []api.Ins{{Op: api.Num}, {Op: api.Phi, Into: []int{2}}, jump}, []int{1}},
		{"a Jump behind a Br", []api.Ins{{Op: api.Br, Into: []int{0, 2}}, jump}, []int{1}},
		{"a Jump behind a Ret", []api.Ins{{Op: api.Ret}, jump}, []int{1}},
		{"a Ret behind a Jump", []api.Ins{jump, {Op: api.Ret}}, nil},
		{"a Stop behind a Jump", []api.Ins{jump, {Op: api.Stop}}, nil},
		{"another one behind a Jump", []api.Ins{jump, {Op: api.Add, Into: []int{2}}}, nil},
		{"itself", []api.Ins{{Op: api.Jump, Into: []int{0}}}, []int{0}},
	} {
		f := api.Func{Blocks: []api.Block{block(c.list...), block(end()), block(end())}}
		wantList(t, "P4.1: Next: "+c.name, Next(f, 0), c.want)
		prev := make([][]int, 3)
		for _, b := range c.want {
			prev[b] = []int{0}
		}
		wantLists(t, "P4.1: Prev: "+c.name, Prev(f), prev)
	}
}

func TestNextOfNoOtherOp(t *testing.T) {
	for op := -2; op <= api.Stop+3; op++ {
		f := api.Func{Blocks: []api.Block{block(api.Ins{Op: op, Into: []int{1}}), {}}}
		var want []int
		if op == api.Jump || op == api.Br {
			want = []int{1}
		}
		wantList(t, "P4.1: Next of op "+strconv.Itoa(op), Next(f, 0), want)
	}
}

// TestNextOfWhatIntoNames has four blocks, and asks of the third one.
func TestNextOfWhatIntoNames(t *testing.T) {
	for _, c := range []struct{ into, want []int }{
		{[]int{3, 3}, []int{3}},
		{[]int{1, 3, 1}, []int{1, 3}},
		{[]int{3, 1, 1, 3, 0, 2, 0}, []int{3, 1, 0, 2}},
		{[]int{2, 2}, []int{2}},
		{[]int{-1}, nil},
		{[]int{-1, 1}, []int{1}},
		{[]int{1, -1}, []int{1}},
		{[]int{4}, nil},
		{[]int{4, 3}, []int{3}},
		{[]int{3, 4}, []int{3}},
		{[]int{-1, -1, 4, 4}, nil},
		{noBlocks(4), nil},
		{append(append(noBlocks(4), 2, 0), noBlocks(4)...), []int{2, 0}},
	} {
		for _, op := range []int{api.Jump, api.Br} {
			f := goes(nil, nil, nil, nil)
			f.Blocks[2].Ins[0] = api.Ins{Op: op, Into: c.into}
			wantList(t, "P4.1: Next", Next(f, 2), c.want)
			prev := make([][]int, 4)
			for _, b := range c.want {
				prev[b] = []int{2}
			}
			wantLists(t, "P4.1: Prev", Prev(f), prev)
		}
	}
}

func TestNextOfEachBlock(t *testing.T) {
	to := [][]int{{1, 2}, {4}, {0, 4}, nil, {4}}
	for b, want := range to {
		wantList(t, "P4.1: Next of block "+strconv.Itoa(b), Next(goes(to...), b), want)
	}
}

func TestNextOfNoBlock(t *testing.T) {
	f := goes([]int{1}, []int{0})
	for _, b := range noBlocks(2) {
		wantList(t, "P4.1: Next of "+strconv.Itoa(b), Next(f, b), nil)
	}
	for _, b := range append(noBlocks(0), 0, 1) {
		wantList(t, "P4.1: Next where there are no blocks, of "+strconv.Itoa(b), Next(api.Func{}, b), nil)
	}
}

func TestPrev(t *testing.T) {
	for _, c := range []struct {
		name string
		to   [][]int
		want [][]int
	}{
		{"no blocks", nil, nil},
		{"one block", [][]int{nil}, [][]int{nil}},
		{"a block that goes to itself", [][]int{{0}}, [][]int{{0}}},
		{"one that none goes to", [][]int{{2}, {2}, nil}, [][]int{nil, nil, {0, 1}}},
		{"one that all go to", [][]int{{3, 1}, {2, 3}, {3}, {3, 0}}, [][]int{{3}, {0}, {1}, {0, 1, 2, 3}}},
		{"one that another goes to twice", [][]int{{1, 1}, nil}, [][]int{nil, {0}}},
		{"blocks that are not reached", [][]int{nil, {0, 2}, {1, 0}}, [][]int{{1, 2}, {2}, {1}}},
		{"from behind alone", [][]int{nil, {0}, {1}, {1, 2}}, [][]int{{1}, {2, 3}, {3}, nil}},
		{"Into that are no blocks", [][]int{{-1, 1}, {2, 0}, {3}}, [][]int{{1}, {0}, {1}}},
	} {
		wantLists(t, "P4.1: Prev: "+c.name, Prev(goes(c.to...)), c.want)
	}
}

// nextByWords is Next as P4.1 says it, without a map.
func nextByWords(f api.Func, b int) []int {
	var next []int
	if b < 0 || b >= len(f.Blocks) || len(f.Blocks[b].Ins) == 0 {
		return nil
	}
	last := f.Blocks[b].Ins[len(f.Blocks[b].Ins)-1]
	for _, to := range last.Into {
		if (last.Op == api.Jump || last.Op == api.Br) && to >= 0 && to < len(f.Blocks) && !slices.Contains(next, to) {
			next = append(next, to)
		}
	}
	return next
}

func prevByWords(f api.Func) [][]int {
	prev := make([][]int, len(f.Blocks))
	for b := range f.Blocks {
		for a := range f.Blocks {
			if slices.Contains(nextByWords(f, a), b) {
				prev[b] = append(prev[b], a)
			}
		}
	}
	return prev
}

func TestNextAndPrevOfThrownFunctions(t *testing.T) {
	thrown := dice(1)
	for range 3000 {
		f := thrown.odd()
		for b := -1; b <= len(f.Blocks); b++ {
			wantList(t, "P4.1: Next", Next(f, b), nextByWords(f, b))
		}
		wantLists(t, "P4.1: Prev", Prev(f), prevByWords(f))
		if t.Failed() {
			t.Fatalf("of %+v", f)
		}
	}
}

// TestNextOfManyInto: so many that one search through all of them for each would not end in good time.
func TestNextOfManyInto(t *testing.T) {
	const count = 200000
	f := api.Func{Blocks: make([]api.Block, count)}
	var into, want []int
	for b := range count {
		into, want = append(into, count-1-b, count-1-b/2), append(want, count-1-b)
	}
	f.Blocks[0] = block(api.Ins{Op: api.Br, Into: into})
	wantList(t, "P4.1: Next of many", Next(f, 0), want)
	if prev := Prev(f); slices.ContainsFunc(prev, func(list []int) bool { return !slices.Equal(list, []int{0}) }) {
		t.Error("P4.1: Prev of many: another list than of block 0 alone")
	}
}

func TestNextAndPrevAreNewMemory(t *testing.T) {
	f := roomy(goes([]int{1, 2}, []int{0, 2}, []int{2, 0}, []int{1}))
	before := memory(f)
	in := spacesOfFunc("handed in", f)
	var answers []space
	for range 2 {
		for b, want := range [][]int{{1, 2}, {0, 2}, {2, 0}, {1}, nil} {
			next := Next(f, b)
			wantList(t, "P0.4: Next with room behind the lengths", next, want)
			answers = append(answers, spaceOf("Next of "+strconv.Itoa(b), next))
		}
		prev := Prev(f)
		wantLists(t, "P0.4: Prev with room behind the lengths", prev, [][]int{{1, 2}, {0, 3}, {0, 1, 2}, nil})
		answers = append(answers, spacesOfLists("Prev", prev)...)
	}
	wantLeft(t, "Next and Prev", f, before)
	wantApart(t, answers, in)
}
