package flow

import (
	"runtime/debug"
	"slices"
	"testing"

	"planish/api"
)

// ordered is where a function's blocks go, and what P4.2 says of it.
type ordered struct {
	name  string
	to    [][]int
	order []int
	loops bool
}

func orderedFuncs() []ordered {
	return []ordered{
		{"no blocks", nil, nil, false},
		{"one block", [][]int{nil}, []int{0}, false},
		{"one block that goes to itself", [][]int{{0}}, []int{0}, true},
		{"one block that goes to itself twice", [][]int{{0, 0}}, []int{0}, true},
		{"one block that goes to none", [][]int{{-1, 7}}, []int{0}, false},
		{"the example", [][]int{{1, 2}, {3}, {3}, nil}, []int{0, 2, 1, 3}, false},
		{"the example, the other way about", [][]int{{2, 1}, {3}, {3}, nil}, []int{0, 1, 2, 3}, false},
		{"a row", [][]int{{1}, {2}, nil}, []int{0, 1, 2}, false},
		{"a row from behind", [][]int{{2}, nil, {1}}, []int{0, 2, 1}, false},
		{"both ways to one", [][]int{{1, 1}, nil}, []int{0, 1}, false},
		{"blocks that are not reached", [][]int{{2}, {2, 3}, nil, {1}}, []int{0, 2}, false},
		{"a block that is not reached, and goes to itself", [][]int{nil, {1}}, []int{0}, false},
		{"a ring that is not reached", [][]int{{3}, {2}, {1, 3}, nil}, []int{0, 3}, false},
		{"a ring that is not reached, and comes to block 0", [][]int{nil, {2, 0}, {1, 0}}, []int{0}, false},
		{"a block that goes to itself", [][]int{{1}, {1, 2}, nil}, []int{0, 1, 2}, true},
		{"a block that goes to itself last", [][]int{{1}, {2, 1}, nil}, []int{0, 1, 2}, true},
		{"a last block that goes to itself", [][]int{{1}, {1}}, []int{0, 1}, true},
		{"a ring of all", [][]int{{1}, {2}, {0}}, []int{0, 1, 2}, true},
		{"a ring of all, turned", [][]int{{2}, {0}, {1}}, []int{0, 2, 1}, true},
		{"a ring of three behind block 0", [][]int{{1}, {2}, {3}, {1, 4}, nil}, []int{0, 1, 2, 3, 4}, true},
		{"a ring that is left first", [][]int{{1}, {3, 2}, {1}, nil}, []int{0, 1, 2, 3}, true},
		{"a ring that is left last", [][]int{{1}, {2, 3}, {1}, nil}, []int{0, 1, 3, 2}, true},
		{"a ring with two ways in", [][]int{{1, 2}, {2}, {1, 3}, nil}, []int{0, 1, 2, 3}, true},
		{"a ring with two ways in, turned", [][]int{{2, 1}, {2}, {1, 3}, nil}, []int{0, 2, 3, 1}, true},
		{"two ways of one and of two steps", [][]int{{2, 1}, {2}, nil}, []int{0, 1, 2}, false},
		{"two ways of two and of one step", [][]int{{1, 2}, {2}, nil}, []int{0, 1, 2}, false},
		{"a step back in number alone", [][]int{{3, 1}, {2}, nil, {2, 1}}, []int{0, 3, 1, 2}, false},
		{"two ways that meet twice", [][]int{{1, 2}, {3}, {3}, {4, 5}, {6}, {6}, nil}, []int{0, 2, 1, 3, 5, 4, 6}, false},
		{"more ways than two", [][]int{{3, 1, 2, 9, 1}, nil, nil, nil}, []int{0, 2, 1, 3}, false},
	}
}

func TestOrderReachLoops(t *testing.T) {
	for _, c := range orderedFuncs() {
		f := goes(c.to...)
		reach := make([]bool, len(c.to))
		for _, b := range c.order {
			reach[b] = true
		}
		wantList(t, "P4.2: Order: "+c.name, Order(f), c.order)
		wantList(t, "P4.2: Reach: "+c.name, Reach(f), reach)
		if got := Loops(f); got != c.loops {
			t.Errorf("P4.2: Loops: %s: %v", c.name, got)
		}
	}
}

// TestReachGoesByNext: what is no Next leads nowhere.
func TestReachGoesByNext(t *testing.T) {
	for name, b := range map[string]api.Block{
		"no Ins": {}, "a Ret with an Into": block(api.Ins{Op: api.Ret, Into: []int{0, 1}}),
		"a Stop with an Into": block(api.Ins{Op: api.Stop, Into: []int{1, 0}}), "a Jump ahead of the end": block(end(1), end(0), end()),
		"a Phi alone": block(phi(1, []int{1, 1}, []int{0, 1})), "Into that are no blocks": block(end(noBlocks(2)...)),
	} {
		f := api.Func{Blocks: []api.Block{b, block(end())}}
		wantList(t, "P4.2: Order: "+name, Order(f), []int{0})
		wantList(t, "P4.2: Reach: "+name, Reach(f), []bool{true, false})
		if Loops(f) {
			t.Errorf("P4.2: Loops: %s: true", name)
		}
	}
}

// waysByWords tells from which block which one is come to, by one step or more.
func waysByWords(f api.Func) [][]bool {
	ways := make([][]bool, len(f.Blocks))
	for a := range ways {
		ways[a] = make([]bool, len(f.Blocks))
		for _, b := range nextByWords(f, a) {
			ways[a][b] = true
		}
	}
	for over := range ways {
		for a := range ways {
			for b := range ways {
				ways[a][b] = ways[a][b] || ways[a][over] && ways[over][b]
			}
		}
	}
	return ways
}

func reachByWords(f api.Func) []bool {
	reach := make([]bool, len(f.Blocks))
	for b := range reach {
		reach[b] = b == 0 || waysByWords(f)[0][b]
	}
	return reach
}

func loopsByWords(f api.Func) bool {
	for b, reached := range reachByWords(f) {
		if reached && waysByWords(f)[b][b] {
			return true
		}
	}
	return false
}

// orderByWords is Order by calls in one another.
func orderByWords(f api.Func) []int {
	var order []int
	met := make([]bool, len(f.Blocks))
	var visit func(b int)
	visit = func(b int) {
		met[b] = true
		for _, to := range nextByWords(f, b) {
			if !met[to] {
				visit(to)
			}
		}
		order = append([]int{b}, order...)
	}
	if len(f.Blocks) > 0 {
		visit(0)
	}
	return order
}

func wantByWords(t *testing.T, f api.Func) {
	t.Helper()
	wantList(t, "P4.2: Order", Order(f), orderByWords(f))
	wantList(t, "P4.2: Reach", Reach(f), reachByWords(f))
	if got := Loops(f); got != loopsByWords(f) {
		t.Errorf("P4.2: Loops: %v", got)
	}
	if t.Failed() {
		t.Fatalf("of %+v", f)
	}
}

// TestOrderReachLoopsOfThrownFunctions: of such as may be, and of others.
func TestOrderReachLoopsOfThrownFunctions(t *testing.T) {
	thrown := dice(2)
	for range 2000 {
		wantByWords(t, thrown.ends(1+thrown.below(9)))
		wantByWords(t, thrown.odd())
	}
}

// TestOrderReachLoopsOfAllSmallFunctions: of all of three blocks, each of which goes to none, to one or to two.
func TestOrderReachLoopsOfAllSmallFunctions(t *testing.T) {
	ends := [][]int{nil}
	for a := range 3 {
		ends = append(ends, []int{a})
		for b := range 3 {
			ends = append(ends, []int{a, b})
		}
	}
	for _, first := range ends {
		for _, second := range ends {
			for _, third := range ends {
				wantByWords(t, goes(first, second, third))
			}
		}
	}
}

// TestWhatFollowsOfOrder: each block but the first one stands behind one of its Prev.
func TestWhatFollowsOfOrder(t *testing.T) {
	thrown := dice(3)
	for range 1000 {
		f := thrown.ends(1 + thrown.below(12))
		order, prev := Order(f), Prev(f)
		for place, b := range order {
			ahead := func(p int) bool { return slices.Contains(order[:place], p) }
			if place == 0 && b != 0 || place > 0 && !slices.ContainsFunc(prev[b], ahead) {
				t.Fatalf("P4.4: Order %v of %+v", order, f)
			}
		}
	}
}

// TestOrderOfManyBlocks: so many in a row that calls in one another have no room on the stack, and that a search through
// all of them for each would not end in good time.
func TestOrderOfManyBlocks(t *testing.T) {
	const count = 1 << 19
	defer debug.SetMaxStack(debug.SetMaxStack(16 * count))
	f := api.Func{}
	want := []int{}
	for b := range count {
		f.Blocks = append(f.Blocks, block(end(b+1)))
		want = append(want, b)
	}
	f.Blocks[count-1] = block(end())
	if !slices.Equal(Order(f), want) || slices.Contains(Reach(f), false) || Loops(f) {
		t.Error("P4.2: many in a row")
	}
	f.Blocks[count-1] = block(end(count / 2))
	if !slices.Equal(Order(f), want) || slices.Contains(Reach(f), false) || !Loops(f) {
		t.Error("P4.2: many in a row, then a ring")
	}
}

func TestOrderReachLoopsAreNewMemory(t *testing.T) {
	f := roomy(goes([]int{1, 2}, []int{3}, []int{3}, nil, []int{0, 1}))
	before := memory(f)
	in := spacesOfFunc("handed in", f)
	var answers []space
	for range 2 {
		order, reach := Order(f), Reach(f)
		wantList(t, "P0.4: Order with room behind the lengths", order, []int{0, 2, 1, 3})
		wantList(t, "P0.4: Reach with room behind the lengths", reach, []bool{true, true, true, true, false})
		if Loops(f) {
			t.Error("P0.4: Loops with room behind the lengths: true")
		}
		answers = append(answers, spaceOf("Order", order), spaceOf("Reach", reach))
	}
	wantLeft(t, "Order, Reach and Loops", f, before)
	wantApart(t, answers, in)
}
