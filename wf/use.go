package wf

import (
	"slices"

	"planish/api"
	"planish/dom"
)

// useFault tells whether a value of m has not its number, is none, or is taken where it is not there yet (P6.3, 6).
func useFault(m api.Module) bool { return slices.ContainsFunc(m.Funcs, funcUseFault) }

func funcUseFault(f api.Func) bool {
	if numberFault(f) {
		return true
	}
	v := values{givenAt(f), dom.Over(f)}
	for b, block := range f.Blocks {
		for i, ins := range block.Ins {
			if v.argFault(ins, spot{b, i}) {
				return true
			}
		}
	}
	return false
}

// numberFault tells whether a To is not the next number behind the parameters.
func numberFault(f api.Func) bool {
	next := len(f.Params) + 1
	for _, block := range f.Blocks {
		for _, ins := range block.Ins {
			if ins.Type == 0 {
				continue
			}
			if ins.To != next {
				return true
			}
			next++
		}
	}
	return false
}

// spot is where an Ins stands.
type spot struct{ block, place int }

// givenAt gives by value, from 0 on, where it is given. The parameters (and 0, which is none) stand ahead of all in
// block 0, which is over each block: so they are there everywhere.
func givenAt(f api.Func) []spot {
	spots := slices.Repeat([]spot{{0, -1}}, len(f.Params)+1)
	for b, block := range f.Blocks {
		for i, ins := range block.Ins {
			if ins.Type != 0 {
				spots = append(spots, spot{b, i})
			}
		}
	}
	return spots
}

// values are those of a function: by value where it is given; by block the nearest one over it.
type values struct {
	given []spot
	over  []int
}

// argFault tells whether ins, which stands at here, takes what is no value, or not there yet.
func (v values) argFault(ins api.Ins, here spot) bool {
	for i, arg := range ins.Args {
		if arg < 1 || arg >= len(v.given) {
			return true
		}
		from := v.given[arg]
		switch {
		case ins.Op == api.Phi:
			// What an entry takes must be there at the end of the block that it comes from, not where the Phi stands.
			if !v.isOver(from.block, ins.Into[i]) {
				return true
			}
		case from.block == here.block:
			if from.place >= here.place {
				return true
			}
		case !v.isOver(from.block, here.block):
			return true
		}
	}
	return false
}

// isOver goes up from b by the nearest blocks over it, worked out once: dom.Dom would search the whole function for each
// use.
func (v values) isOver(a, b int) bool {
	for b >= 0 && b != a {
		b = v.over[b]
	}
	return b == a
}
