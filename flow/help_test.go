package flow

import (
	"math"
	"reflect"
	"slices"
	"strconv"
	"testing"

	"planish/api"
	"planish/ir"
)

// goes is a function whose blocks go where to says: to one a Jump, to two a Br, to none a Ret; to more what may not be.
func goes(to ...[]int) api.Func {
	f := api.Func{Name: "f", Params: []int{api.I1}}
	for _, into := range to {
		f.Blocks = append(f.Blocks, block(end(into...)))
	}
	return f
}

func end(into ...int) api.Ins {
	switch len(into) {
	case 0:
		return api.Ins{Op: api.Ret}
	case 1:
		return api.Ins{Op: api.Jump, Into: into}
	}
	return api.Ins{Op: api.Br, Args: []int{1}, Into: into}
}

func block(list ...api.Ins) api.Block { return api.Block{Ins: list} }

func phi(to int, args, into []int) api.Ins {
	return api.Ins{Op: api.Phi, Type: api.I64, To: to, Args: args, Into: into}
}

func number(to int, n int64) api.Ins { return api.Ins{Op: api.Num, Type: api.I64, To: to, Num: n} }

// noBlocks are numbers that name a block of no function here that has count blocks.
func noBlocks(count int) []int {
	return []int{-1, -2, count, count + 1, 1 << 32, -1 << 32, 1<<32 + 1, math.MaxInt, math.MinInt, math.MinInt + 1}
}

// dice gives numbers that look thrown, the same ones in every run.
type dice uint64

func (d *dice) below(n int) int {
	*d = *d*6364136223846793005 + 1442695040888963407
	return int(uint64(*d)>>33) % n
}

// blocks throws at most so many numbers of blocks of a function that has count of them.
func (d *dice) blocks(most, count int) []int {
	list := make([]int, 0, most)
	for range d.below(most + 1) {
		list = append(list, d.below(count))
	}
	return list
}

// ends throws a function of that many blocks, each of which ends as it may; now and then a Stop.
func (d *dice) ends(count int) api.Func {
	var to [][]int
	for range count {
		to = append(to, d.blocks(2, count))
	}
	f := goes(to...)
	for b := range f.Blocks {
		if last := &f.Blocks[b].Ins[0]; last.Op == api.Ret && d.below(2) > 0 {
			last.Op = api.Stop
		}
	}
	return f
}

// filled throws a function as ends does, with Phis and others ahead of the ends, whose entries come from anywhere.
func (d *dice) filled(count int) api.Func {
	f := d.ends(count)
	for b := range f.Blocks {
		var list []api.Ins
		for range d.below(4) {
			list = append(list, d.ins(count))
		}
		f.Blocks[b].Ins = append(list, f.Blocks[b].Ins...)
	}
	return f
}

func (d *dice) ins(count int) api.Ins {
	if d.below(3) == 0 {
		return api.Ins{Op: d.below(api.Phi), Type: d.below(3), To: d.below(9), Sym: d.below(3), Args: d.blocks(3, 9), Into: d.blocks(2, count)}
	}
	made := phi(d.below(9), nil, nil)
	for range d.below(6) {
		from := d.below(count)
		if d.below(6) == 0 {
			from = noBlocks(count)[d.below(len(noBlocks(count)))]
		}
		made.Args, made.Into = append(made.Args, d.below(9)), append(made.Into, from)
	}
	return made
}

// odd throws a function that mostly may not be: any ends, or none, and Into that name no blocks.
func (d *dice) odd() api.Func {
	count := d.below(6)
	f := api.Func{Params: make([]int, d.below(3)), Blocks: make([]api.Block, count)}
	for b := range f.Blocks {
		for range d.below(4) {
			ins := api.Ins{Op: api.Phi + d.below(7), Type: d.below(2), To: d.below(9), Args: d.blocks(4, 9), Into: d.blocks(4, count)}
			if d.below(3) == 0 {
				ins.Into = append(ins.Into, noBlocks(count)[d.below(len(noBlocks(count)))])
			}
			f.Blocks[b].Ins = append(f.Blocks[b].Ins, ins)
		}
	}
	return f
}

// mark is a number that no answer has.
const mark = 7777

// roomy is a copy of f whose lists have marked room behind their length.
func roomy(f api.Func) api.Func {
	marked := api.Ins{Op: api.Jump, Type: mark, To: mark, Args: []int{mark}, Into: []int{0}}
	f.Params = append(slices.Clip(f.Params), mark)[:len(f.Params)]
	blocks := []api.Block{}
	for _, b := range f.Blocks {
		list := []api.Ins{}
		for _, ins := range b.Ins {
			ins.Args = append(slices.Clip(ins.Args), 0)[:len(ins.Args)]
			ins.Into = append(slices.Clip(ins.Into), 0)[:len(ins.Into)]
			list = append(list, ins)
		}
		blocks = append(blocks, api.Block{Ins: append(list, marked)[:len(list)]})
	}
	f.Blocks = append(blocks, block(marked))[:len(blocks)]
	return f
}

// memory is a copy of f, with what lies behind the length of its lists.
func memory(f api.Func) api.Func {
	f.Params = slices.Clone(whole(f.Params))
	f.Blocks = slices.Clone(whole(f.Blocks))
	for b := range f.Blocks {
		list := slices.Clone(whole(f.Blocks[b].Ins))
		for i := range list {
			list[i].Args, list[i].Into = slices.Clone(whole(list[i].Args)), slices.Clone(whole(list[i].Into))
		}
		f.Blocks[b].Ins = list
	}
	return f
}

func whole[T any](list []T) []T { return list[:cap(list)] }

// space is the memory of a list, with what lies behind its length.
type space struct {
	what       string
	begin, end uintptr
}

func spaceOf[T any](what string, list []T) space {
	v := reflect.ValueOf(list)
	return space{what, v.Pointer(), v.Pointer() + uintptr(v.Cap())*v.Type().Elem().Size()}
}

func spacesOfLists(what string, lists [][]int) []space {
	spaces := []space{spaceOf(what, lists)}
	for i, list := range lists {
		spaces = append(spaces, spaceOf(what+" "+strconv.Itoa(i), list))
	}
	return spaces
}

func spacesOfFunc(what string, f api.Func) []space {
	spaces := []space{spaceOf(what+" Params", f.Params), spaceOf(what+" Blocks", f.Blocks)}
	for b, block := range f.Blocks {
		name := what + " block " + strconv.Itoa(b)
		spaces = append(spaces, spaceOf(name, block.Ins))
		for i, ins := range block.Ins {
			at := name + " place " + strconv.Itoa(i)
			spaces = append(spaces, spaceOf(at+" Args", ins.Args), spaceOf(at+" Into", ins.Into))
		}
	}
	return spaces
}

// wantApart asks that no list of an answer lies in the memory of another one of it, nor in that of others.
func wantApart(t *testing.T, answer, others []space) {
	t.Helper()
	for i, mine := range answer {
		for _, other := range append(slices.Clone(answer[:i]), others...) {
			if mine.begin < other.end && other.begin < mine.end {
				t.Errorf("P0.4: %s shares memory with %s", mine.what, other.what)
			}
		}
	}
}

// wantLeft asks that f's memory is as it was.
func wantLeft(t *testing.T, call string, f, before api.Func) {
	t.Helper()
	if now := memory(f); !ir.SameFunc(now, before) {
		t.Errorf("P0.4: %s: what was handed in is changed: %+v, not %+v", call, now, before)
	}
}

func wantList[T comparable](t *testing.T, call string, got, want []T) {
	t.Helper()
	if !slices.Equal(got, want) {
		t.Errorf("%s: %v, not %v", call, got, want)
	}
}

func wantLists(t *testing.T, call string, got, want [][]int) {
	t.Helper()
	if !slices.EqualFunc(got, want, slices.Equal[[]int]) {
		t.Errorf("%s: %v, not %v", call, got, want)
	}
}
