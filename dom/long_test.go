package dom

import "testing"

// Functions so long that calls in one another, or a search anew of each block, would be found out.
const long = 1 << 16

func TestOfALongRow(t *testing.T) {
	var to [][]int
	for b := range long - 1 {
		to = append(to, []int{b + 1})
	}
	f := goes(append(to, nil)...)
	for b, above := range Over(f) {
		if above != b-1 {
			t.Fatalf("P5.1: Over of %d in a row: %d", b, above)
		}
	}
	for a, list := range Under(f) {
		if a < long-1 && (len(list) != 1 || list[0] != a+1) || a == long-1 && len(list) > 0 {
			t.Fatalf("P5.1: Under of %d in a row: %v", a, list)
		}
	}
	for a, list := range Front(f) {
		if len(list) > 0 {
			t.Fatalf("P5.2: Front of %d in a row: %v", a, list)
		}
	}
	wantDom(t, f, 1, long-1, true)
	wantDom(t, f, long-1, 1, false)
}

// TestOfALongLadder: each goes to the next one, and to the last.
func TestOfALongLadder(t *testing.T) {
	var to [][]int
	for b := range long - 1 {
		to = append(to, []int{b + 1, long - 1})
	}
	f := goes(append(to, nil)...)
	for b, above := range Over(f) {
		if b < long-1 && above != b-1 || b == long-1 && above != 0 {
			t.Fatalf("P5.1: Over of %d in a ladder: %d", b, above)
		}
	}
	for a, list := range Front(f) {
		if inside := a > 0 && a < long-1; inside != (len(list) == 1 && list[0] == long-1) || !inside && len(list) > 0 {
			t.Fatalf("P5.2: Front of %d in a ladder: %v", a, list)
		}
	}
}

// TestOfALongWayBothWays is entered at both its ends, and each block goes to the next one and to the one ahead: none but
// block 0 is over another one.
func TestOfALongWayBothWays(t *testing.T) {
	to := [][]int{{1, long - 1}}
	for b := 1; b < long-1; b++ {
		to = append(to, []int{b + 1, max(b-1, 1)})
	}
	f := goes(append(to, []int{long - 2})...)
	for b, above := range Over(f) {
		if b > 0 && above != 0 {
			t.Fatalf("P5.1: Over of %d in a way both ways: %d", b, above)
		}
	}
	front := Front(f)
	wantList(t, "P5.2: Front of the first in a way both ways", front[1], []int{1, 2})
	wantList(t, "P5.2: Front of the third in a way both ways", front[3], []int{2, 4})
	wantList(t, "P5.2: Front of the last in a way both ways", front[long-1], []int{long - 2})
}

// TestOfManyWays: block 0 goes to all, and all go to the last and to block 0.
func TestOfManyWays(t *testing.T) {
	to := [][]int{nil}
	for b := 1; b < long; b++ {
		to[0] = append(to[0], long-b)
		to = append(to, []int{long - 1, 0})
	}
	f := goes(to...)
	under := Under(f)
	for i, b := range under[0] {
		if b != i+1 {
			t.Fatalf("P5.1: Under of block 0: %d at %d", b, i)
		}
	}
	if len(under[0]) != long-1 {
		t.Fatalf("P5.1: Under of block 0: %d of them", len(under[0]))
	}
	front := Front(f)
	wantList(t, "P5.2: Front of block 0", front[0], []int{0})
	wantList(t, "P5.2: Front of one of many", front[long/2], []int{0, long - 1})
	wantList(t, "P5.2: Front of the last of many", front[long-1], []int{0, long - 1})
}
