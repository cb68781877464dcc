package mem

import (
	"math"
	"slices"
	"testing"
)

func TestNew(t *testing.T) {
	m := New()
	wantObjects(t, "a new Mem", m, nil)
	wantNothingBeyond(t, "a new Mem", m, nil)
	wantMake(t, m, []int64{5})
	wantObjects(t, "a new Mem, behind a Make", m, [][]int64{{5}})
}

func TestExample(t *testing.T) {
	m := New()
	if obj := m.Make([]int64{5, 6}); obj != 0 {
		t.Errorf("P10.1: Make of 5, 6: %d", obj)
	}
	wantLoad(t, "5, 6", m, 0, 1, 6)
}

func TestMake(t *testing.T) {
	several := [][]int64{nil, {}, {5}, {5, 6}, {0}, {0, 0, 0}, nil, edgeValues(), {7}, {}, {-1, 1, -1}, {5, 6}, make([]int64, 300)}
	m := New()
	for count, cells := range several {
		if obj := m.Make(cells); obj != count {
			t.Fatalf("P10.1: Make of object %d: %d", count, obj)
		}
		wantObjects(t, "Make of "+short(cells), m, several[:count+1])
		wantNothingBeyond(t, "Make of "+short(cells), m, several[:count+1])
	}
}

// Each of the objects may be the first one, or the only one.
func TestMakeOrders(t *testing.T) {
	kinds := [][]int64{nil, {}, {5}, {5, 6, 7}}
	for i := range 4 * 4 * 4 {
		objects := [][]int64{kinds[i%4], kinds[i/4%4], kinds[i/16]}
		for count := range objects {
			m := made(t, objects[:count+1]...)
			wantObjects(t, short(objects[:count+1]), m, objects[:count+1])
		}
	}
}

func TestSizeOfNone(t *testing.T) {
	for _, objects := range [][][]int64{nil, {nil}, {{5}}, {{5, 6}, nil}, {nil, nil, {5, 6, 7}}, {{1}, {2}, {3}, {4}, {5}}} {
		m := made(t, objects...)
		for _, obj := range numbersOfNone(len(objects)) {
			if m.Size(obj) != 0 {
				t.Errorf("P10.1: Size(%d) of %d objects: %d", obj, len(objects), m.Size(obj))
			}
		}
	}
}

// What is asked makes nothing, and changes nothing.
func TestAskedTwice(t *testing.T) {
	objects := [][]int64{{5, 6}, nil, {7}}
	m := made(t, objects...)
	for range 3 {
		wantNothingBeyond(t, "asked again", m, objects)
	}
	wantMake(t, m, []int64{8})
	wantObjects(t, "asked, and then made", m, [][]int64{{5, 6}, nil, {7}, {8}})
}

func TestCellsChangedAfterwards(t *testing.T) {
	room := []int64{1, 2, 3, 77, 78, 79}
	cells := room[:3]
	m := New()
	wantMake(t, m, cells)
	want := [][]int64{{1, 2, 3}}
	wantObjects(t, "cells with spare room", m, want)
	wantCells(t, "what Make was handed, with what lies behind it", room, []int64{1, 2, 3, 77, 78, 79})
	for i := range cells {
		cells[i] = 40 + int64(i)
	}
	wantObjects(t, "the cells changed afterwards", m, want)
	cells = append(cells, 90)
	wantObjects(t, "the cells appended to within their spare room", m, want)
	for i := range room {
		room[i] = 50
	}
	wantObjects(t, "all of their memory changed", m, want)
	wantMake(t, m, cells)
	wantObjects(t, "made of them once more", m, [][]int64{{1, 2, 3}, {50, 50, 50, 50}})
}

func TestOneCellChangedAfterwards(t *testing.T) {
	for kept := range 4 {
		room := []int64{1, 2, 3}
		m := New()
		wantMake(t, m, room[:kept])
		for i := range room {
			room[i] = 9
			wantObjects(t, "a cell changed afterwards", m, [][]int64{[]int64{1, 2, 3}[:kept]})
		}
	}
}

// What lies behind the length is not seen, whether it is asked for or stored to.
func TestBehindTheLength(t *testing.T) {
	for length := range 4 {
		room := []int64{11, 12, 13, 14, 15}
		m := New()
		wantMake(t, m, room[:length])
		want := [][]int64{slices.Clone(room[:length])}
		wantObjects(t, "cells with spare room", m, want)
		for off := int64(length); off < 8; off++ {
			wantNoLoad(t, "behind the length", m, 0, off)
			wantNoStore(t, "behind the length", m, 0, off, 88)
		}
		wantObjects(t, "stored to behind the length", m, want)
		wantCells(t, "what lies behind the length", room, []int64{11, 12, 13, 14, 15})
	}
}

// A Store changes no list that was handed in.
func TestStoreChangesNoArgument(t *testing.T) {
	room := []int64{1, 2, 3, 77}
	m := New()
	wantMake(t, m, room[:3])
	wantMake(t, m, room[:3])
	for off := range int64(3) {
		wantStore(t, "stored", m, 0, off, 60+off)
		wantStore(t, "stored", m, 1, off, 70+off)
	}
	wantCells(t, "what Make was handed", room, []int64{1, 2, 3, 77})
	wantObjects(t, "stored", m, [][]int64{{60, 61, 62}, {70, 71, 72}})
}

func TestSameCellsTwice(t *testing.T) {
	room := []int64{1, 2, 3, 4}
	m := New()
	for _, cells := range [][]int64{room, room, room[:2], room[2:], room[1:3], room[:0], room[:1]} {
		wantMake(t, m, cells)
	}
	want := [][]int64{{1, 2, 3, 4}, {1, 2, 3, 4}, {1, 2}, {3, 4}, {2, 3}, nil, {1}}
	wantObjects(t, "made of the same cells", m, want)
	for obj, cells := range want {
		for off := range cells {
			v := int64(100*obj + off + 10)
			wantStore(t, "one of those made of the same cells", m, obj, int64(off), v)
			cells[off] = v
			wantObjects(t, "stored to one of those made of the same cells", m, want)
		}
	}
}

func TestTwoMems(t *testing.T) {
	cells := []int64{1, 2, 3}
	a, b, c := New(), New(), New()
	wantMake(t, a, cells)
	wantObjects(t, "another Mem", b, nil)
	wantMake(t, b, cells)
	wantMake(t, b, []int64{9})
	wantObjects(t, "the first Mem", a, [][]int64{{1, 2, 3}})
	wantStore(t, "the first Mem", a, 0, 1, 50)
	wantStore(t, "the second Mem", b, 0, 1, 60)
	wantStore(t, "the second Mem", b, 0, 2, 61)
	wantNoStore(t, "the first Mem", a, 1, 0, 62)
	wantObjects(t, "the first Mem", a, [][]int64{{1, 50, 3}})
	wantObjects(t, "the second Mem", b, [][]int64{{1, 60, 61}, {9}})
	wantObjects(t, "a Mem in which nothing was made", c, nil)
	wantObjects(t, "a Mem that is new behind others", New(), nil)
	wantMake(t, c, nil)
	wantMake(t, a, []int64{4})
	wantObjects(t, "the third Mem", c, [][]int64{nil})
	wantObjects(t, "the first Mem", a, [][]int64{{1, 50, 3}, {4}})
}

func TestManyObjects(t *testing.T) {
	const count = 1 << 17
	m := New()
	for obj := range count {
		cells := []int64{int64(obj), -int64(obj), 7}
		wantMake(t, m, cells[:obj%4%3+obj%2])
	}
	for obj := range count {
		size := obj%4%3 + obj%2
		if m.Size(obj) != size {
			t.Fatalf("P10.1: Size(%d) of many: %d, not %d", obj, m.Size(obj), size)
		}
		for off := range size {
			wantLoad(t, "one of many", m, obj, int64(off), []int64{int64(obj), -int64(obj), 7}[off])
		}
		wantNoLoad(t, "one of many", m, obj, int64(size))
	}
	for _, obj := range numbersOfNone(count) {
		if m.Size(obj) != 0 {
			t.Errorf("P10.1: Size(%d) of %d objects: %d", obj, count, m.Size(obj))
		}
	}
}

func TestManyCells(t *testing.T) {
	const count = 1 << 20
	cells := make([]int64, count)
	for i := range cells {
		cells[i] = int64(i) * 3
	}
	m := made(t, nil, cells, []int64{4})
	clear(cells)
	if m.Size(1) != count {
		t.Fatalf("P10.1: Size of %d cells: %d", count, m.Size(1))
	}
	wantStore(t, "the last one of many cells", m, 1, count-1, math.MinInt64)
	for off := range int64(count - 1) {
		wantLoad(t, "one of many cells", m, 1, off, 3*off)
	}
	wantLoad(t, "the last one of many cells", m, 1, count-1, math.MinInt64)
	for _, off := range placesOfNone(count) {
		wantNoLoad(t, "beyond many cells", m, 1, off)
		wantNoStore(t, "beyond many cells", m, 1, off, 5)
	}
	wantObjects(t, "beside many cells", made(t, nil, []int64{4}), [][]int64{nil, {4}})
	wantLoad(t, "behind many cells", m, 2, 0, 4)
}
