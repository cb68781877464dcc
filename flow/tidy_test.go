package flow

import (
	"slices"
	"testing"

	"planish/api"
	"planish/ir"
)

func wantTidy(t *testing.T, name string, f, want api.Func) {
	t.Helper()
	before := memory(f)
	got := Tidy(f)
	if !ir.SameFunc(got, want) {
		t.Errorf("P4.3: Tidy: %s: %+v, not %+v", name, got, want)
	}
	wantLeft(t, "Tidy: "+name, f, before)
	if slices.Contains(Reach(got), false) {
		t.Errorf("P4.4: Tidy: %s: a block is not reached", name)
	}
	if again := Tidy(got); !ir.SameFunc(again, got) {
		t.Errorf("P4.4: Tidy: %s: twice: %+v, not %+v", name, again, got)
	}
}

// TestTidyOfBlocks: which blocks stay, in which order, and where they go.
func TestTidyOfBlocks(t *testing.T) {
	for _, c := range []struct {
		name     string
		to, want [][]int
	}{
		{"no blocks", nil, nil},
		{"one block", [][]int{nil}, [][]int{nil}},
		{"one block that goes to itself", [][]int{{0, 0}}, [][]int{{0, 0}}},
		{"all reached", [][]int{{1, 2}, {3}, {3}, nil}, [][]int{{1, 2}, {3}, {3}, nil}},
		{"all reached, in another order", [][]int{{3}, nil, {1}, {2, 1}}, [][]int{{3}, nil, {1}, {2, 1}}},
		{"both ways to one", [][]int{{1}, {2, 2}, nil}, [][]int{{1}, {2, 2}, nil}},
		{"one not reached behind the first", [][]int{{2}, {2}, nil}, [][]int{{1}, nil}},
		{"ahead of all the others", [][]int{{3, 4}, {3}, {4}, {4}, nil}, [][]int{{1, 2}, {2}, nil}},
		{"between", [][]int{{1}, {4, 1}, {1}, {2}, {1}}, [][]int{{1}, {2, 1}, {1}}},
		{"behind", [][]int{{1}, {0}, {0, 1}, {3}}, [][]int{{1}, {0}}},
		{"everywhere", [][]int{{4, 2}, {2}, {6, 6}, {2, 4}, {0}, {0}, nil, {7}}, [][]int{{2, 1}, {3, 3}, {0}, nil}},
		{"all but the first", [][]int{nil, {2}, {1, 0}}, [][]int{nil}},
		{"a ring that is not reached", [][]int{{3}, {2}, {1}, nil}, [][]int{{1}, nil}},
	} {
		wantTidy(t, c.name, goes(c.to...), goes(c.want...))
	}
}

// TestTidyOfRetsAndStops: what stays keeps all that is its own.
func TestTidyOfRetsAndStops(t *testing.T) {
	stop, ret := api.Ins{Op: api.Stop, Num: 4}, api.Ins{Op: api.Ret, Args: []int{1}}
	f := api.Func{Name: "g", Out: true, Params: []int{api.I1, api.Ptr}, Result: api.I1}
	want := f
	f.Blocks = []api.Block{block(end(2, 4)), block(stop), block(stop), block(ret), block(ret)}
	want.Blocks = []api.Block{block(end(1, 2)), block(stop), block(ret)}
	wantTidy(t, "Rets and Stops", f, want)
}

// TestTidyOfEntries has a Phi in block 4, to which go 2, 3 and itself, and 1 and 7, which are not reached; 0 and 5 are
// reached and go elsewhere; 6 is not, and goes elsewhere.
func TestTidyOfEntries(t *testing.T) {
	to := [][]int{{2, 3}, {4}, {4, 3}, {5, 4}, {4, 5}, nil, {0}, {4, 5}}
	now := [][]int{{1, 2}, {3, 2}, {4, 3}, {3, 4}, nil}
	for _, c := range []struct {
		name                         string
		args, into, tidyArgs, tidyIn []int
	}{
		{"none", nil, nil, nil, nil},
		{"all that go to it", []int{1, 2, 3}, []int{2, 3, 4}, []int{1, 2, 3}, []int{1, 2, 3}},
		{"these in another order", []int{1, 2, 3}, []int{4, 3, 2}, []int{3, 2, 1}, []int{1, 2, 3}},
		{"two of them", []int{3, 1}, []int{4, 2}, []int{1, 3}, []int{1, 3}},
		{"one that is not reached ahead", []int{3, 1}, []int{1, 3}, []int{1}, []int{2}},
		{"one that is not reached behind", []int{2, 3}, []int{3, 7}, []int{2}, []int{2}},
		{"one that is not reached, and goes elsewhere", []int{2, 3}, []int{6, 2}, []int{3}, []int{1}},
		{"ones that are reached, and go elsewhere", []int{1, 2, 3}, []int{0, 3, 5}, []int{2}, []int{2}},
		{"one that gets the number of another", []int{1, 2}, []int{1, 2}, []int{2}, []int{1}},
		{"none that stays", []int{1, 2, 3, 4}, []int{0, 1, 5, 7}, nil, nil},
		{"the same twice", []int{4, 3, 2}, []int{3, 2, 3}, []int{3, 4, 2}, []int{1, 2, 2}},
		{"no blocks", []int{1, 2, 3, 4}, []int{-1, 8, 3, 9}, []int{3}, []int{2}},
		{"far from all blocks", slices.Repeat([]int{1}, len(noBlocks(8))), noBlocks(8), nil, nil},
	} {
		for _, ahead := range [][]api.Ins{nil, {{Op: api.Not, Args: []int{1}, Into: []int{7, 1}}}} {
			f, want := goes(to...), goes(now...)
			f.Params, want.Params = []int{1, 1, 1, 1}, []int{1, 1, 1, 1}
			f.Blocks[4].Ins = append(append(slices.Clone(ahead), phi(8, c.args, c.into)), f.Blocks[4].Ins...)
			want.Blocks[3].Ins = append(append(slices.Clone(ahead), phi(5, c.tidyArgs, c.tidyIn)), want.Blocks[3].Ins...)
			wantTidy(t, c.name, f, want)
		}
	}
}

// TestTidyOfPhisInTheFirstBlock: an entry from the block itself stays, one from a block that is not reached doesn't.
func TestTidyOfPhisInTheFirstBlock(t *testing.T) {
	f, want := goes([]int{0, 2}, []int{0}, []int{0}), goes([]int{0, 1}, []int{0})
	f.Blocks[0].Ins = append([]api.Ins{phi(2, []int{1, 2, 1}, []int{2, 1, 0})}, f.Blocks[0].Ins...)
	want.Blocks[0].Ins = append([]api.Ins{phi(2, []int{1, 1}, []int{0, 1})}, want.Blocks[0].Ins...)
	wantTidy(t, "a Phi in block 0", f, want)
}

// TestTidyTurnsNoOtherInto: of an Ins that is neither a Phi nor a block's last one Into stays, also of a Jump.
func TestTidyTurnsNoOtherInto(t *testing.T) {
	for op := -1; op <= api.Stop+1; op++ {
		if op == api.Phi {
			continue
		}
		ins := api.Ins{Op: op, Sym: 2, Num: -3, Args: []int{1}, Into: []int{2, 1, 2, -1, 9}}
		f, want := goes([]int{2}, nil, nil), goes([]int{1}, nil)
		f.Blocks[0].Ins = append([]api.Ins{ins}, f.Blocks[0].Ins...)
		want.Blocks[0].Ins = append([]api.Ins{ins}, want.Blocks[0].Ins...)
		wantTidy(t, "an Into ahead of the end", f, want)
	}
}

// TestTidyNumbersValues: as ir.Neat does, of what has stayed.
func TestTidyNumbersValues(t *testing.T) {
	f, want := goes([]int{2, 3}, []int{2}, []int{3}, nil), goes([]int{1, 2}, []int{2}, nil)
	f.Blocks[0].Ins = append([]api.Ins{number(9, 1), {Op: api.Store, To: 5, Args: []int{3, 4, 0, 12}}}, f.Blocks[0].Ins...)
	f.Blocks[1].Ins = append([]api.Ins{number(3, 2), number(4, 3)}, f.Blocks[1].Ins...)
	f.Blocks[2].Ins = append([]api.Ins{number(4, 4), {Op: api.Add, Type: api.I64, To: 7, Args: []int{4, 9}}}, f.Blocks[2].Ins...)
	f.Blocks[3].Ins = append([]api.Ins{phi(2, []int{7, 3, 9}, []int{2, 1, 0}), phi(6, []int{3, 2}, []int{0, 2})}, f.Blocks[3].Ins...)
	want.Blocks[0].Ins = append([]api.Ins{number(2, 1), {Op: api.Store, Args: []int{0, 3, 0, 0}}}, want.Blocks[0].Ins...)
	want.Blocks[1].Ins = append([]api.Ins{number(3, 4), {Op: api.Add, Type: api.I64, To: 4, Args: []int{3, 2}}}, want.Blocks[1].Ins...)
	want.Blocks[2].Ins = append([]api.Ins{phi(5, []int{2, 4}, []int{0, 1}), phi(6, []int{0, 5}, []int{0, 1})}, want.Blocks[2].Ins...)
	wantTidy(t, "values", f, want)
}

// tidyByWords is Tidy as P4.3 says it, each number by a count.
func tidyByWords(f api.Func) api.Func {
	reach := reachByWords(f)
	now := func(b int) int {
		count := 0
		for _, reached := range reach[:b] {
			if reached {
				count++
			}
		}
		return count
	}
	made := f
	made.Blocks = nil
	for b, old := range f.Blocks {
		if !reach[b] {
			continue
		}
		list := slices.Clone(old.Ins)
		for i := range list {
			into := list[i].Into
			if list[i].Op == api.Phi {
				args := list[i].Args
				list[i].Args, list[i].Into = nil, nil
				for k, from := range into {
					if from >= 0 && from < len(reach) && reach[from] && slices.Contains(nextByWords(f, from), b) {
						list[i].Args, list[i].Into = append(list[i].Args, args[k]), append(list[i].Into, now(from))
					}
				}
			} else if i == len(list)-1 {
				list[i].Into = nil
				for _, to := range into {
					list[i].Into = append(list[i].Into, now(to))
				}
			}
		}
		made.Blocks = append(made.Blocks, block(list...))
	}
	return ir.Neat(made)
}

func TestTidyOfThrownFunctions(t *testing.T) {
	thrown := dice(4)
	for range 3000 {
		f := thrown.filled(1 + thrown.below(8))
		wantTidy(t, "thrown", f, tidyByWords(f))
		if got := Tidy(f); Loops(got) != Loops(f) || len(got.Blocks) != len(Order(f)) {
			t.Errorf("P4.4: Tidy goes another way")
		}
		if t.Failed() {
			t.Fatalf("of %+v", f)
		}
	}
}

// TestTidyIsNeatWhereAllIsReached: and no entry comes from a block that goes elsewhere.
func TestTidyIsNeatWhereAllIsReached(t *testing.T) {
	thrown := dice(5)
	for range 1000 {
		f := thrown.ends(1 + thrown.below(5))
		for b, prev := range Prev(f) {
			slices.Reverse(prev)
			f.Blocks[b].Ins = append([]api.Ins{phi(9-b, slices.Clone(prev), prev), number(1+b, 1)}, f.Blocks[b].Ins...)
		}
		if !slices.Contains(Reach(f), false) {
			wantTidy(t, "all reached", f, ir.Neat(f))
		}
	}
}

// somethingFuncs are such of which P4.3 says that Tidy is something.
func somethingFuncs() []api.Func {
	return []api.Func{
		{Blocks: []api.Block{{}}},
		{Blocks: []api.Block{block(end(2)), {}, {}}},
		{Blocks: []api.Block{block(number(1, 1))}},
		{Blocks: []api.Block{block(end(1)), block(phi(1, []int{1}, []int{0}))}},
		{Blocks: []api.Block{block(api.Ins{Op: api.Ret, Into: []int{0, 1, 2}}), block(end())}},
		{Blocks: []api.Block{block(api.Ins{Op: api.Stop, Into: noBlocks(1)})}},
		{Blocks: []api.Block{block(end(0, 2, 1, 2)), block(end()), block(end())}},
		{Blocks: []api.Block{block(api.Ins{Op: api.Jump}), block(api.Ins{Op: api.Br})}},
		{Blocks: []api.Block{block(end(noBlocks(2)...)), block(end(noBlocks(2)...))}},
		{Blocks: []api.Block{block(phi(1, []int{1, 1}, []int{0}), end(0))}},
		{Blocks: []api.Block{block(phi(1, nil, []int{0, 0}), phi(2, []int{1}, nil), end(0))}},
	}
}

// TestTidyOfWhatMayNotBe: nothing is promised but that it ends, does not panic, and leaves what it was handed.
func TestTidyOfWhatMayNotBe(t *testing.T) {
	fs := somethingFuncs()
	thrown := dice(6)
	for range 3000 {
		fs = append(fs, thrown.odd())
	}
	for _, f := range fs {
		f = roomy(f)
		before := memory(f)
		got := Tidy(f)
		wantLeft(t, "Tidy of what may not be", f, before)
		wantApart(t, spacesOfFunc("Tidy", got), spacesOfFunc("handed in", f))
		if t.Failed() {
			t.Fatalf("of %+v", f)
		}
	}
}

// TestTidyOfManyBlocks: so many blocks and entries that a search through all of them for each would be found out.
func TestTidyOfManyBlocks(t *testing.T) {
	const count = 1 << 15
	f, want := goes(), goes()
	crowd, few := phi(2, nil, nil), phi(2, nil, nil)
	for b := range count {
		f.Blocks = append(f.Blocks, block(end(2*b+2, 2*count)), block(end(2*count)))
		want.Blocks = append(want.Blocks, block(end(b+1, count)))
		crowd.Args, crowd.Into = append(crowd.Args, 1, 1), append(crowd.Into, 2*b+1, 2*b)
		few.Args, few.Into = append(few.Args, 1), append(few.Into, b)
	}
	f.Blocks = append(f.Blocks, block(crowd, end()))
	want.Blocks = append(want.Blocks, block(few, end()))
	if !ir.SameFunc(Tidy(f), want) {
		t.Error("P4.3: Tidy of many blocks")
	}
}

func TestTidyIsNewMemory(t *testing.T) {
	shared := []int{0, 3}
	same := phi(2, shared, shared)
	sharing := goes([]int{0, 3}, nil, nil, []int{3, 0})
	sharing.Blocks[0] = block(same, same, end(shared...))
	sharing.Blocks[3] = block(same, same, end(shared...))
	for name, f := range map[string]api.Func{
		"no blocks": {Params: []int{1}}, "all reached": goes([]int{1}, []int{0}), "not all reached": goes([]int{2}, nil, []int{2, 0}),
		"lists that are shared": sharing, "room behind the lengths": roomy(sharing),
	} {
		before := memory(f)
		got := Tidy(f)
		if !ir.SameFunc(got, tidyByWords(f)) {
			t.Errorf("P4.3: Tidy: %s: %+v, not %+v", name, got, tidyByWords(f))
		}
		wantLeft(t, "Tidy: "+name, f, before)
		answers := append(spacesOfFunc("Tidy", got), spacesOfFunc("Tidy again", Tidy(f))...)
		wantApart(t, append(answers, spacesOfFunc("Tidy of Tidy", Tidy(got))...), spacesOfFunc("handed in", f))
	}
}
