package dom

import (
	"slices"
	"testing"

	"planish/api"
)

// shape is a function, by where its blocks go, and what is always ahead in it.
type shape struct {
	name         string
	to           [][]int
	over         []int
	under, front [][]int
}

func shapes() []shape {
	return []shape{
		{"no blocks", nil, nil, nil, nil},
		{"one block", [][]int{nil}, []int{-1}, [][]int{nil}, [][]int{nil}},
		{"one block that goes to itself", [][]int{{0}}, []int{-1}, [][]int{nil}, [][]int{{0}}},
		{"one block that goes to itself twice", [][]int{{0, 0}}, []int{-1}, [][]int{nil}, [][]int{{0}}},
		{"a row", [][]int{{1}, {2}, {3}, nil}, []int{-1, 0, 1, 2}, [][]int{{1}, {2}, {3}, nil}, make([][]int, 4)},
		{"a row from behind", [][]int{{3}, nil, {1}, {2}}, []int{-1, 2, 3, 0}, [][]int{{3}, nil, {1}, {2}}, make([][]int, 4)},
		{"both ways to one", [][]int{{1, 1}, nil}, []int{-1, 0}, [][]int{{1}, nil}, make([][]int, 2)},
		{"the chapter's example", [][]int{{1, 2}, {3}, {3}, nil}, []int{-1, 0, 0, 0},
			[][]int{{1, 2, 3}, nil, nil, nil}, [][]int{nil, {3}, {3}, nil}},
		{"two ways, one straight on", [][]int{{2, 1}, {2}, nil}, []int{-1, 0, 0}, [][]int{{1, 2}, nil, nil}, [][]int{nil, {2}, nil}},
		{"two ways within one", [][]int{{1, 6}, {2, 3}, {4}, {4}, {5}, {6}, nil}, []int{-1, 0, 1, 1, 1, 4, 0},
			[][]int{{1, 6}, {2, 3, 4}, nil, nil, {5}, nil, nil}, [][]int{nil, {6}, {4}, {4}, {6}, {6}, nil}},
		{"a ring", [][]int{{1}, {2}, {3}, {1, 4}, nil}, []int{-1, 0, 1, 2, 3},
			[][]int{{1}, {2}, {3}, {4}, nil}, [][]int{nil, {1}, {1}, {1}, nil}},
		{"a ring through block 0", [][]int{{1}, {2}, {0}}, []int{-1, 0, 1}, [][]int{{1}, {2}, nil}, [][]int{{0}, {0}, {0}}},
		{"several back to block 0", [][]int{{1, 2}, {0, 3}, {3, 0}, {0}}, []int{-1, 0, 0, 0},
			[][]int{{1, 2, 3}, nil, nil, nil}, [][]int{{0}, {0, 3}, {0, 3}, {0}}},
		{"a block that goes to itself", [][]int{{1}, {1, 2}, nil}, []int{-1, 0, 1}, [][]int{{1}, {2}, nil}, [][]int{nil, {1}, nil}},
		{"a ring in a ring", [][]int{{1}, {2}, {3, 2}, {1, 4}, nil}, []int{-1, 0, 1, 2, 3},
			[][]int{{1}, {2}, {3}, {4}, nil}, [][]int{nil, {1}, {1, 2}, {1}, nil}},
		{"a ring entered at two places", [][]int{{1, 2}, {2}, {1, 3}, nil}, []int{-1, 0, 0, 2},
			[][]int{{1, 2}, nil, {3}, nil}, [][]int{nil, {2}, {1}, nil}},
		{"a longer ring entered at two places", [][]int{{1, 2}, {3}, {4}, {5}, {6}, {6, 3}, {5, 4}}, []int{-1, 0, 0, 0, 0, 0, 0},
			[][]int{{1, 2, 3, 4, 5, 6}, nil, nil, nil, nil, nil, nil}, [][]int{nil, {3}, {4}, {5}, {6}, {3, 6}, {4, 5}}},
		{"one not reached", [][]int{{1}, nil, {1, 0}}, []int{-1, 0, -1}, [][]int{{1}, nil, nil}, make([][]int, 3)},
		{"a Prev that is not reached", [][]int{{1, 3}, {4}, {4}, {4}, nil}, []int{-1, 0, -1, 0, 0},
			[][]int{{1, 3, 4}, nil, nil, nil, nil}, [][]int{nil, {4}, nil, {4}, nil}},
		{"rings that are not reached", [][]int{nil, {2}, {1, 0}, {3, 0}}, []int{-1, -1, -1, -1}, make([][]int, 4), make([][]int, 4)},
		{"not reached, to those that are", [][]int{{1}, {2}, nil, {0, 2}, {3, 1}}, []int{-1, 0, 1, -1, -1},
			[][]int{{1}, {2}, nil, nil, nil}, make([][]int, 5)},
		{"numbers that fall", [][]int{{4, 3}, nil, {1}, {2, 1}, {2, 1}}, []int{-1, 0, 0, 0, 0},
			[][]int{{1, 2, 3, 4}, nil, nil, nil, nil}, [][]int{nil, nil, {1}, {1, 2}, {1, 2}}},
		{"a Br to more", [][]int{{4, 2, 4, 3, 9, 1, -1}, {4}, nil, {4}, nil}, []int{-1, 0, 0, 0, 0},
			[][]int{{1, 2, 3, 4}, nil, nil, nil, nil}, [][]int{nil, {4}, nil, {4}, nil}},
	}
}

func TestShapes(t *testing.T) {
	for _, s := range shapes() {
		f := goes(s.to...)
		wantList(t, "P5.1: Over: "+s.name, Over(f), s.over)
		wantLists(t, "P5.1: Under: "+s.name, Under(f), s.under)
		wantLists(t, "P5.2: Front: "+s.name, Front(f), s.front)
		wantWords(t, f)
	}
}

func TestDomOfTwoWays(t *testing.T) {
	f := goes([]int{1, 2}, []int{3}, []int{3}, []int{4}, nil)
	for b, above := range [][]int{{0}, {0, 1}, {0, 2}, {0, 3}, {0, 3, 4}} {
		for a := range 5 {
			wantDom(t, f, a, b, slices.Contains(above, a))
		}
	}
}

// TestDomOfBlocksThatAreNotReached has 2 and 3 so: of which one would be over the other, and 3 over itself.
func TestDomOfBlocksThatAreNotReached(t *testing.T) {
	f := goes([]int{1}, nil, []int{3}, []int{3, 1})
	for _, b := range []int{2, 3} {
		for other := range 4 {
			wantDom(t, f, b, other, false)
			wantDom(t, f, other, b, false)
		}
	}
	for _, pair := range [][2]int{{0, 0}, {0, 1}, {1, 1}} {
		wantDom(t, f, pair[0], pair[1], true)
	}
}

func TestDomOfNoBlocks(t *testing.T) {
	for _, f := range []api.Func{{}, {Blocks: []api.Block{}}, goes(nil), goes([]int{0}), goes([]int{1, 2}, []int{0}, nil)} {
		strays := noBlocks(len(f.Blocks))
		for _, stray := range strays {
			for b := range f.Blocks {
				wantDom(t, f, stray, b, false)
				wantDom(t, f, b, stray, false)
			}
			for _, other := range strays {
				wantDom(t, f, stray, other, false)
			}
		}
	}
	wantDom(t, api.Func{}, 0, 0, false)
}

// TestOfAllThreeBlocks: each of them ends in one of all the ways that may be.
func TestOfAllThreeBlocks(t *testing.T) {
	ways := [][]int{nil}
	for a := range 3 {
		ways = append(ways, []int{a})
		for b := range 3 {
			ways = append(ways, []int{a, b})
		}
	}
	for _, first := range ways {
		for _, second := range ways {
			for _, third := range ways {
				wantWords(t, goes(first, second, third))
			}
		}
	}
}

func TestOfThrownFunctions(t *testing.T) {
	thrown := dice(1)
	for range 2000 {
		wantWords(t, thrown.ends(1+thrown.below(8)))
		wantWords(t, thrown.odd())
	}
	for range 60 {
		wantWords(t, thrown.ends(20+thrown.below(21)))
	}
}

// TestOfRowsWithThrownSteps has all blocks reached, in a row, of which each goes somewhere else as well.
func TestOfRowsWithThrownSteps(t *testing.T) {
	thrown := dice(2)
	for range 500 {
		count := 2 + thrown.below(12)
		var to [][]int
		for b := range count {
			into := []int{(b + 1) % count}
			if thrown.below(2) == 0 {
				into = slices.Insert(into, thrown.below(2), thrown.below(count))
			}
			to = append(to, into)
		}
		wantWords(t, goes(to...))
	}
}

// TestWhatFollows: P5.3, of all that Dom tells.
func TestWhatFollows(t *testing.T) {
	thrown := dice(3)
	for range 300 {
		count := 1 + thrown.below(7)
		f := thrown.ends(count)
		for a := range count {
			for b := range count {
				for c := range count {
					if Dom(f, a, b) && Dom(f, b, c) && !Dom(f, a, c) {
						t.Fatalf("P5.3: %d is over %d, and that over %d: %+v", a, b, c, f)
					}
					if Dom(f, a, c) && Dom(f, b, c) && !Dom(f, a, b) && !Dom(f, b, a) {
						t.Fatalf("P5.3: %d and %d are over %d: %+v", a, b, c, f)
					}
				}
			}
		}
	}
}

// TestOfBlocksThatMayNotEnd: a block goes on by a Jump or a Br alone, and by the last Ins alone.
func TestOfBlocksThatMayNotEnd(t *testing.T) {
	jump, ret := api.Ins{Op: api.Jump, Into: []int{1}}, api.Ins{Op: api.Ret, Into: []int{1}}
	for _, list := range [][]api.Ins{nil, {}, {ret}, {jump, ret}, {{Op: api.Phi, Into: []int{1}}}, {{Op: api.Stop, Into: []int{1}}}} {
		f := api.Func{Blocks: []api.Block{{Ins: list}, {}}}
		wantList(t, "P5.1: Over", Over(f), []int{-1, -1})
		wantWords(t, f)
	}
	f := api.Func{Blocks: []api.Block{{Ins: []api.Ins{ret, jump}}, {}}}
	wantList(t, "P5.1: Over", Over(f), []int{-1, 0})
	wantWords(t, f)
}

func TestWhatIsHandedInStays(t *testing.T) {
	thrown := dice(4)
	for range 500 {
		made := thrown.odd()
		f := roomy(made)
		before := memory(f)
		want := inWords(made)
		for a := -1; a <= len(f.Blocks); a++ {
			for b := -1; b <= len(f.Blocks); b++ {
				is := a >= 0 && a < len(f.Blocks) && b >= 0 && b < len(f.Blocks) && want.is[a][b]
				wantDom(t, f, a, b, is)
			}
		}
		wantList(t, "P0.4: Over with room behind the lengths", Over(f), want.over)
		wantLists(t, "P0.4: Under with room behind the lengths", Under(f), want.under)
		wantLists(t, "P0.4: Front with room behind the lengths", Front(f), want.front)
		wantLeft(t, "all calls", f, before)
		if t.Failed() {
			t.Fatalf("of %+v", made)
		}
	}
}

func TestAnswersAreNewMemory(t *testing.T) {
	for _, s := range shapes() {
		f := roomy(goes(s.to...))
		before := memory(f)
		var lists [][]int
		for range 2 {
			lists = append(lists, Over(f))
			lists = append(lists, Under(f)...)
			lists = append(lists, Front(f)...)
		}
		wantApart(t, s.name, lists)
		under, front := Under(f), Front(f)
		for _, list := range [][][]int{whole(under), whole(front)} {
			for i := range list {
				list[i] = []int{2000}
			}
		}
		wantLeft(t, "writing into the answers", f, before)
		wantList(t, "P0.4: Over again: "+s.name, Over(f), s.over)
		wantLists(t, "P0.4: Under again: "+s.name, Under(f), s.under)
		wantLists(t, "P0.4: Front again: "+s.name, Front(f), s.front)
	}
}
