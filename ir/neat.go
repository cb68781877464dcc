package ir

import (
	"cmp"
	"slices"

	"planish/api"
)

// Neat gives f with each Phi's entries rising by Into, and all values numbered in order (P3.3).
func Neat(f api.Func) api.Func {
	neat := copyFunc(f)
	sortPhis(neat)
	renumber(neat)
	return neat
}

// sortPhis works in f's own lists, which must be nobody else's.
func sortPhis(f api.Func) {
	for _, block := range f.Blocks {
		for _, ins := range block.Ins {
			if ins.Op == api.Phi && len(ins.Args) == len(ins.Into) {
				sortEntries(ins.Args, ins.Into)
			}
		}
	}
}

// entry is one of a Phi's: the value that comes, and the block that it comes from.
type entry struct{ arg, from int }

func sortEntries(args, into []int) {
	entries := make([]entry, 0, len(into))
	for i, from := range into {
		entries = append(entries, entry{args[i], from})
	}
	// Stable: among entries from the same block the first one stays first.
	slices.SortStableFunc(entries, func(a, b entry) int { return cmp.Compare(a.from, b.from) })
	for i, e := range entries {
		args[i], into[i] = e.arg, e.from
	}
}

// renumber works in f's own lists, which must be nobody else's.
func renumber(f api.Func) {
	// Worked out ahead of any change: an Args may name what is given only behind it.
	numbers := newNumbers(f)
	last := len(f.Params)
	for _, block := range f.Blocks {
		for i := range block.Ins {
			ins := &block.Ins[i]
			for k, arg := range ins.Args {
				ins.Args[k] = numbers[arg]
			}
			ins.To = 0
			if gives(*ins) {
				last++
				ins.To = last
			}
		}
	}
}

// newNumbers gives the new number of each old one that names a value: a parameter's own, else that of the first Ins in
// order that gave it. An old number that names none isn't in it, so that asking for it gives the 0 that is promised.
func newNumbers(f api.Func) map[int]int {
	numbers := make(map[int]int)
	for i := range f.Params {
		numbers[i+1] = i + 1
	}
	last := len(f.Params)
	for _, block := range f.Blocks {
		for _, ins := range block.Ins {
			if !gives(ins) {
				continue
			}
			last++
			if _, taken := numbers[ins.To]; !taken {
				numbers[ins.To] = last
			}
		}
	}
	return numbers
}
