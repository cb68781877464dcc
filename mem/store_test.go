package mem

import (
	"math"
	"slices"
	"strconv"
	"testing"
)

func copied(objects [][]int64) [][]int64 {
	all := make([][]int64, len(objects))
	for i, cells := range objects {
		all[i] = slices.Clone(cells)
	}
	return all
}

// shapes are objects of several sizes, in several orders.
func shapes() [][][]int64 {
	return [][][]int64{
		{{5}}, {{5, 6}}, {nil, {5}}, {{5}, nil}, {{5}, {6}}, {{5, 6, 7}, nil, nil, {8}, {9, 10}},
		{nil, {1, 1}, {1, 1}, {1}, nil}, {{0, 0, 0, 0}, {0}, {0, 0}}, {edgeValues(), edgeValues(), {3}},
		{make([]int64, 17), {1, 2, 3}, make([]int64, 16)},
	}
}

// Each cell is stored to, with each value at an edge; all cells are loaded ahead and behind.
func TestStoreOneCellAlone(t *testing.T) {
	for _, objects := range shapes() {
		for obj, cells := range objects {
			for off := range cells {
				m, want := made(t, objects...), copied(objects)
				wantObjects(t, "ahead of a Store", m, want)
				for _, v := range edgeValues() {
					wantStore(t, short(objects), m, obj, int64(off), v)
					want[obj][off] = v
					wantObjects(t, "behind a Store of "+strconv.FormatInt(v, 10), m, want)
				}
			}
		}
	}
}

// A Store that is false changes nothing, wherever it is and whatever it would store, neither at once nor behind
// further Makes and Stores.
func TestStoreFalse(t *testing.T) {
	for _, objects := range shapes() {
		m, want := made(t, objects...), copied(objects)
		wantNothingBeyond(t, short(objects), m, want)
		for _, v := range edgeValues() {
			wantNoStore(t, short(objects), m, -1, 0, v)
			wantNoStore(t, short(objects), m, len(want), 0, v)
			wantNoStore(t, short(objects), m, len(want)-1, int64(len(want[len(want)-1])), v)
			wantNoStore(t, short(objects), m, 0, -1, v)
		}
		wantObjects(t, "Stores that are false", m, want)
		for _, cells := range [][]int64{nil, {0, 0, 0, 0, 0, 0, 0, 0}, {4}} {
			wantMake(t, m, cells)
			want = append(want, slices.Clone(cells))
			wantObjects(t, "made behind Stores that are false", m, want)
		}
		wantStore(t, "behind Stores that are false", m, len(want)-1, 0, 6)
		want[len(want)-1][0] = 6
		wantObjects(t, "stored behind Stores that are false", m, want)
	}
}

func TestNoCells(t *testing.T) {
	for _, none := range [][]int64{nil, {}, make([]int64, 0, 4), []int64{1, 2, 3}[:0], []int64{1, 2, 3}[3:]} {
		objects := [][]int64{{5, 6}, none, {7}}
		m := made(t, objects...)
		for _, off := range append(placesOfNone(0), -3, 3, 4) {
			wantNoLoad(t, "an object of no cells", m, 1, off)
			wantNoStore(t, "an object of no cells", m, 1, off, 9)
			wantNoLoad(t, "an object of no cells", m, 1, off)
		}
		wantObjects(t, "beside an object of no cells", m, objects)
		wantNothingBeyond(t, "beside an object of no cells", m, objects)
	}
}

func TestPlacesAtTheEnds(t *testing.T) {
	for size := range 6 {
		objects := [][]int64{{91, 92}, []int64{1, 2, 3, 4, 5}[:size], {93, 94}}
		m := made(t, objects...)
		for _, off := range append(placesOfNone(size), math.MinInt64, math.MaxInt64) {
			wantNoLoad(t, "beyond", m, 1, off)
			wantNoStore(t, "beyond", m, 1, off, 5)
		}
		wantObjects(t, "stored beyond", m, objects)
		for off := range size {
			wantStore(t, "within", m, 1, int64(off), 5)
		}
	}
}

// What was stored last is loaded, as often as it is (P10.3).
func TestStoreTwice(t *testing.T) {
	m := made(t, []int64{1, 2}, []int64{3})
	for _, first := range edgeValues() {
		for _, second := range edgeValues() {
			wantStore(t, "the first time", m, 0, 1, first)
			wantStore(t, "the second time", m, 0, 1, second)
			wantLoad(t, "stored twice", m, 0, 1, second)
			wantObjects(t, "stored twice", m, [][]int64{{1, second}, {3}})
		}
	}
	wantStore(t, "there", m, 0, 0, 20)
	wantNoStore(t, "and beyond", m, 0, 2, 30)
	wantNoStore(t, "and nowhere", m, 2, 0, 40)
	wantLoad(t, "stored, and then false", m, 0, 0, 20)
}

// Stores may come in another order than the cells lie in.
func TestStoreOrders(t *testing.T) {
	for _, places := range [][]int64{{0, 1, 2}, {0, 2, 1}, {1, 0, 2}, {1, 2, 0}, {2, 0, 1}, {2, 1, 0}} {
		m := made(t, []int64{4, 5, 6}, []int64{7, 8, 9})
		want := [][]int64{{4, 5, 6}, {7, 8, 9}}
		for i, off := range places {
			wantStore(t, "stored", m, 1, off, int64(30+i))
			want[1][off] = int64(30 + i)
			wantObjects(t, "stored in an order", m, want)
		}
	}
}

// An object made behind others that were stored to has its own cells alone, and they keep what was stored.
func TestMadeBehindStores(t *testing.T) {
	m := New()
	var want [][]int64
	for i := range 200 {
		cells := []int64{1, 2, 3, 4}[:i%5]
		wantMake(t, m, cells)
		want = append(want, slices.Clone(cells))
		for off := range want[i] {
			v := int64(1000*i + off)
			wantStore(t, "an object that was just made", m, i, int64(off), v)
			want[i][off] = v
		}
		old := i / 2
		for off := range want[old] {
			v := -int64(1000*i + off)
			wantStore(t, "one made long ago", m, old, int64(off), v)
			want[old][off] = v
		}
		wantObjects(t, "made behind Stores", m, want)
	}
}

// call is a call of a Mem: a Make with cells, or else a Store.
type call struct {
	makes    bool
	cells    []int64
	obj      int
	off, val int64
}

// done does a call, and its answer has to be what P10.1 or P10.2 says.
func (c call) done(t *testing.T, m *Mem, ahead []call) {
	t.Helper()
	if c.makes {
		wantMake(t, m, c.cells)
		return
	}
	if _, is := lastStored(ahead, c.obj, c.off); is {
		wantStore(t, short(ahead), m, c.obj, c.off, c.val)
	} else {
		wantNoStore(t, short(ahead), m, c.obj, c.off, c.val)
	}
}

// lastStored tells what one cell is behind some calls, of which it looks at those alone that are about it.
func lastStored(calls []call, obj int, off int64) (int64, bool) {
	last, is, objects := int64(0), false, 0
	for _, c := range calls {
		if c.makes {
			if objects == obj && off >= 0 && off < int64(len(c.cells)) {
				last, is = c.cells[off], true
			}
			objects++
		} else if is && c.obj == obj && c.off == off {
			last = c.val
		}
	}
	return last, is
}

// wantCalls holds each cell that there could be against what was stored last.
func wantCalls(t *testing.T, m *Mem, calls []call, objects, places int) {
	t.Helper()
	what := short(calls)
	for obj := -1; obj <= objects; obj++ {
		for off := int64(-1); off <= int64(places); off++ {
			if v, is := lastStored(calls, obj, off); is {
				wantLoad(t, what, m, obj, off, v)
			} else {
				wantNoLoad(t, what, m, obj, off)
			}
		}
	}
}

// All rows of up to five calls out of nine.
func TestShortRows(t *testing.T) {
	few := []call{
		{makes: true}, {makes: true, cells: []int64{5}}, {makes: true, cells: []int64{6, 7}},
		{obj: 0, off: 0, val: 8}, {obj: 0, off: 1, val: 9}, {obj: 1, off: 0, val: 10}, {obj: 0, off: 0, val: 0},
		{obj: -1, off: 0, val: 11}, {obj: 0, off: -1, val: 12},
	}
	rows := 1
	for range 5 {
		rows *= len(few)
	}
	for row := range rows {
		m := New()
		var calls []call
		for left, i := row, 0; i < 5; left, i = left/len(few), i+1 {
			c := few[left%len(few)]
			c.done(t, m, calls)
			calls = append(calls, c)
		}
		wantCalls(t, m, calls, 5, 2)
	}
}

func TestThrownRows(t *testing.T) {
	d := dice(10)
	values := edgeValues()
	for range 300 {
		m := New()
		var calls []call
		for range 1 + d.below(80) {
			c := call{obj: d.below(9) - 1, off: int64(d.below(7) - 1), val: values[d.below(len(values))]}
			if d.below(6) == 0 {
				c = call{makes: true}
				for range d.below(6) {
					c.cells = append(c.cells, values[d.below(len(values))])
				}
			}
			c.done(t, m, calls)
			calls = append(calls, c)
		}
		wantCalls(t, m, calls, m.Len(), 6)
	}
}

// The same calls give the same, whatever other Mems are called in between (P0.5).
func TestBetweenOthers(t *testing.T) {
	d := dice(11)
	mems := []*Mem{New(), New(), New()}
	want := make([][][]int64, len(mems))
	for range 3000 {
		i := d.below(len(mems))
		m, objects := mems[i], want[i]
		if d.below(5) == 0 {
			cells := make([]int64, d.below(4))
			wantMake(t, m, cells)
			want[i] = append(objects, slices.Clone(cells))
			continue
		}
		obj, off, v := d.below(len(objects)+1), d.below(4), int64(d.below(1000))
		if obj < len(objects) && off < len(objects[obj]) {
			wantStore(t, "one of three", m, obj, int64(off), v)
			objects[obj][off] = v
		} else {
			wantNoStore(t, "one of three", m, obj, int64(off), v)
		}
	}
	for i, m := range mems {
		wantObjects(t, "one of three", m, want[i])
	}
}
