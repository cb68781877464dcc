package flow

import (
	"planish/api"
	"planish/ir"
)

// Tidy gives f with its blocks of Reach alone, numbered anew, each Phi with those entries alone that come from a block
// that goes to it; and that neat (P4.3).
func Tidy(f api.Func) api.Func {
	tidy := f
	tidy.Blocks = nil
	numbers := newNumbers(Reach(f))
	prev := Prev(f)
	for b, block := range f.Blocks {
		if numbers[b] != gone {
			tidy.Blocks = append(tidy.Blocks, tidyBlock(block, numbers, comers(prev[b], numbers)))
		}
	}
	// What stayed as it was is f's own memory up to here: Neat copies all of it.
	return ir.Neat(tidy)
}

// gone stands for the new number of a block that is not reached.
const gone = -1

// newNumbers gives the new number of each block.
func newNumbers(reach []bool) []int {
	numbers := make([]int, 0, len(reach))
	next := 0
	for _, reached := range reach {
		if !reached {
			numbers = append(numbers, gone)
			continue
		}
		numbers = append(numbers, next)
		next++
	}
	return numbers
}

// comers gives the new numbers of those of prev that are reached, by their old ones.
func comers(prev, numbers []int) map[int]int {
	from := make(map[int]int)
	for _, p := range prev {
		if numbers[p] != gone {
			from[p] = numbers[p]
		}
	}
	return from
}

func tidyBlock(block api.Block, numbers []int, from map[int]int) api.Block {
	tidy := api.Block{Ins: make([]api.Ins, 0, len(block.Ins))}
	for i, ins := range block.Ins {
		switch {
		case ins.Op == api.Phi:
			ins = tidyPhi(ins, from)
		case i == len(block.Ins)-1:
			ins.Into = tidyInto(ins.Into, numbers)
		}
		tidy.Ins = append(tidy.Ins, ins)
	}
	return tidy
}

// tidyPhi leaves a Phi whose Args and Into are not as many as it stands, as Neat does: it has no entries to choose from.
func tidyPhi(phi api.Ins, from map[int]int) api.Ins {
	if len(phi.Args) != len(phi.Into) {
		return phi
	}
	var args, into []int
	for i, old := range phi.Into {
		if number, comes := from[old]; comes {
			args = append(args, phi.Args[i])
			into = append(into, number)
		}
	}
	phi.Args, phi.Into = args, into
	return phi
}

// tidyInto leaves a number that is no block as it stands: it lies below 0 or past all old numbers, and so is none of the
// new ones either.
func tidyInto(into, numbers []int) []int {
	tidy := make([]int, 0, len(into))
	for _, b := range into {
		if b >= 0 && b < len(numbers) {
			b = numbers[b]
		}
		tidy = append(tidy, b)
	}
	return tidy
}
