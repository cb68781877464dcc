package mem

import (
	"fmt"
	"math"
	"slices"
	"testing"
)

// numbersOfNone are numbers of no object, of so many objects; also those that would be one if only their low bits
// were looked at, or if those below 0 were counted from the end.
func numbersOfNone(count int) []int {
	return []int{
		-1, -2, -count, -count - 1, -64, -256, -1 << 31, -1 << 32, -1<<32 + 1, math.MinInt, math.MinInt + 1,
		count, count + 1, count + 64, count + 256, count + 1<<32, 1 << 31, 1 << 32, 1<<32 + 1, 1 << 62, math.MaxInt - 1, math.MaxInt,
	}
}

// placesOfNone are the same of the places of an object of so many cells.
func placesOfNone(size int) []int64 {
	var places []int64
	for _, n := range numbersOfNone(size) {
		places = append(places, int64(n))
	}
	return places
}

// edgeValues are numbers at the ends of those that a cell may have, and around what could be taken for nothing.
func edgeValues() []int64 {
	return []int64{
		math.MinInt64, math.MinInt64 + 1, -1<<53 - 1, -1 << 32, -1<<31 - 1, -1 << 31, -129, -128, -1, 0, 1, 127, 128, 255, 256,
		1<<31 - 1, 1 << 31, 1<<32 - 1, 1 << 32, 1<<53 + 1, 1 << 62, math.MaxInt64 - 1, math.MaxInt64,
	}
}

// dice gives numbers that look thrown, the same ones in every run.
type dice uint64

func (d *dice) below(n int) int {
	*d = *d*6364136223846793005 + 1442695040888963407
	return int(uint64(*d)>>33) % n
}

// short keeps what a test tells within bounds.
func short(thing any) string {
	s := fmt.Sprint(thing)
	return s[:min(len(s), 600)]
}

// made gives a Mem with these objects.
func made(t *testing.T, objects ...[]int64) *Mem {
	t.Helper()
	m := New()
	for _, cells := range objects {
		wantMake(t, m, cells)
	}
	return m
}

// wantMake makes an object, whose number has to be as many as there were.
func wantMake(t *testing.T, m *Mem, cells []int64) {
	t.Helper()
	want := m.Len()
	if obj := m.Make(cells); obj != want {
		t.Fatalf("P10.1: Make of %s behind %d others: %d", short(cells), want, obj)
	}
	if m.Len() != want+1 {
		t.Fatalf("P10.1: Len behind Make of object %d: %d", want, m.Len())
	}
}

func wantLoad(t *testing.T, what string, m *Mem, obj int, off, want int64) {
	t.Helper()
	if v, is := m.Load(obj, off); v != want || !is {
		t.Fatalf("P10.2: %s: Load(%d, %d): %d, %v, not %d, true", what, obj, off, v, is, want)
	}
}

func wantNoLoad(t *testing.T, what string, m *Mem, obj int, off int64) {
	t.Helper()
	if v, is := m.Load(obj, off); v != 0 || is {
		t.Fatalf("P10.2: %s: Load(%d, %d): %d, %v, not 0, false", what, obj, off, v, is)
	}
}

func wantStore(t *testing.T, what string, m *Mem, obj int, off, v int64) {
	t.Helper()
	if !m.Store(obj, off, v) {
		t.Fatalf("P10.2: %s: Store(%d, %d, %d) is false", what, obj, off, v)
	}
}

func wantNoStore(t *testing.T, what string, m *Mem, obj int, off, v int64) {
	t.Helper()
	if m.Store(obj, off, v) {
		t.Fatalf("P10.2: %s: Store(%d, %d, %d) is true", what, obj, off, v)
	}
}

// wantObjects asks that m has these objects, and nothing next to them.
func wantObjects(t *testing.T, what string, m *Mem, objects [][]int64) {
	t.Helper()
	if m.Len() != len(objects) {
		t.Fatalf("P10.1: %s: Len: %d, not %d", what, m.Len(), len(objects))
	}
	for obj, cells := range objects {
		if m.Size(obj) != len(cells) {
			t.Fatalf("P10.1: %s: Size(%d): %d, not %d", what, obj, m.Size(obj), len(cells))
		}
		for off, v := range cells {
			wantLoad(t, what, m, obj, int64(off), v)
		}
		wantNoLoad(t, what, m, obj, -1)
		wantNoLoad(t, what, m, obj, int64(len(cells)))
	}
	for _, obj := range []int{-1, len(objects)} {
		if m.Size(obj) != 0 {
			t.Fatalf("P10.1: %s: Size(%d): %d, but there are %d objects", what, obj, m.Size(obj), len(objects))
		}
		wantNoLoad(t, what, m, obj, 0)
	}
}

// wantNothingBeyond asks for nothing at any number of no object, and at any place beyond an object, and that no Store
// there changes anything.
func wantNothingBeyond(t *testing.T, what string, m *Mem, objects [][]int64) {
	t.Helper()
	for _, obj := range numbersOfNone(len(objects)) {
		if m.Size(obj) != 0 {
			t.Fatalf("P10.1: %s: Size(%d): %d, but there are %d objects", what, obj, m.Size(obj), len(objects))
		}
		for _, off := range append(placesOfNone(1), 0) {
			wantNoLoad(t, what, m, obj, off)
			wantNoStore(t, what, m, obj, off, 77)
			wantNoLoad(t, what, m, obj, off)
		}
	}
	for obj, cells := range objects {
		for _, off := range placesOfNone(len(cells)) {
			wantNoLoad(t, what, m, obj, off)
			wantNoStore(t, what, m, obj, off, 77)
			wantNoLoad(t, what, m, obj, off)
		}
	}
	wantObjects(t, what+", behind Stores that are false", m, objects)
}

func wantCells(t *testing.T, what string, cells, want []int64) {
	t.Helper()
	if !slices.Equal(cells, want) {
		t.Fatalf("P0.4: %s: %s, not %s", what, short(cells), short(want))
	}
}
