package sem

import (
	"slices"

	"planish/api"
	"planish/mem"
)

// value is a number (n), a pointer (the object that is alone in a Mem, and the offset n), or a function (its place n).
type value struct {
	n  int64
	in *mem.Mem
}

// frame is a call that is under way: a function, its values, a place: of which block, and which of its Ins behind the
// Phis is the next one.
type frame struct {
	fn           *function
	values       []value
	block, place int
}

// next gives the Ins that is to be done, and goes on behind it.
func (f *frame) next() *api.Ins {
	f.place++
	return f.last()
}

// last gives the Ins that was done last: of a frame that has called another one, its Call or Via.
func (f *frame) last() *api.Ins {
	return &f.fn.blocks[f.block].rest[f.place-1]
}

// arg gives the value that an Ins takes as its k-th one, from 0 on.
func (f *frame) arg(i *api.Ins, k int) value { return f.values[i.Args[k]] }

// give makes v what an Ins gives, if it gives something.
func (f *frame) give(i *api.Ins, v value) {
	if i.Type != 0 {
		f.values[i.To] = v
	}
}

// enter goes to the first Ins behind a block's Phis, and gives what these are. It works in the room of taken, and
// answers that room.
func (f *frame) enter(to int, taken []value) []value {
	taken = taken[:0]
	phis := f.fn.blocks[to].phis
	if len(phis) > 0 {
		// All Phis of a block name the same blocks, in the same order.
		from := slices.Index(phis[0].Into, f.block)
		// All is taken ahead of what is given, as one Phi may take another one.
		for k := range phis {
			taken = append(taken, f.arg(&phis[k], from))
		}
		for k, v := range taken {
			f.give(&phis[k], v)
		}
	}
	f.block, f.place = to, 0
	return taken
}
