package dom

import (
	"slices"

	"planish/api"
	"planish/flow"
)

// Over gives of each block the nearest one that is over it, itself left out; -1 where there is none (P5.1).
//
// It is worked out on a depth-first tree, by the heads of the blocks (the semidominators of Lengauer and Tarjan): a
// search anew around each block, or passes until nothing changes, would be slow on long functions.
func Over(f api.Func) []int {
	over := slices.Repeat([]int{none}, len(f.Blocks))
	t := grow(f)
	for place, above := range nearest(t, findHeads(t, flow.Prev(f))) {
		if above != none {
			over[t.blocks[place]] = t.blocks[above]
		}
	}
	return over
}

// tree is a depth-first way through the blocks of Reach. Their places in it are the order in which it met them.
type tree struct {
	blocks  []int // by place: the block
	parents []int // by place: the place from which the way came, none for block 0
	places  []int // by block: its place, none where it is not reached
}

// step is a way to a block that is still to be tried, from a place.
type step struct{ from, to int }

// grow tries the newest step first, and looks only then whether its block was met: so the way is depth first without
// calls in one another, for which a long row of blocks might leave no room.
func grow(f api.Func) tree {
	t := tree{places: slices.Repeat([]int{none}, len(f.Blocks))}
	if len(f.Blocks) == 0 {
		return t
	}
	untried := []step{{none, 0}}
	for len(untried) > 0 {
		last := len(untried) - 1
		here := untried[last]
		untried = untried[:last]
		if t.places[here.to] != none {
			continue
		}
		place := len(t.blocks)
		t.blocks = append(t.blocks, here.to)
		t.parents = append(t.parents, here.from)
		t.places[here.to] = place
		for _, to := range flow.Next(f, here.to) {
			untried = append(untried, step{place, to})
		}
	}
	return t
}

// findHeads gives of each place the first place from which a way leads to it whose places between all lie behind its own.
func findHeads(t tree, prev [][]int) []int {
	heads := count(len(t.blocks))
	c := climb{up: slices.Clone(t.parents), least: count(len(t.blocks))}
	for place := len(t.blocks) - 1; place > 0; place-- {
		for _, p := range prev[t.blocks[place]] {
			if from := t.places[p]; from != none {
				heads[place] = min(heads[place], c.leastOf(from, place))
			}
		}
		c.least[place] = heads[place]
	}
	return heads
}

// count gives the places 0, 1, .. of so many.
func count(n int) []int {
	list := make([]int, n)
	for i := range list {
		list[i] = i
	}
	return list
}

// climb goes up the tree, and shortens the ways it has gone.
type climb struct {
	up    []int // by place: its parent, or one further up
	least []int // by place: the least head from there to below up; the place itself until its head is known
	way   []int // the places of one way, kept for its room alone
}

// leastOf gives the least head of the places behind bound, from place on up the tree; of one that is not behind bound,
// the place itself.
func (c *climb) leastOf(place, bound int) int {
	if place <= bound {
		return place
	}
	c.way = c.way[:0]
	for at := place; at > bound; at = c.up[at] {
		c.way = append(c.way, at)
	}
	for i := len(c.way) - 2; i >= 0; i-- {
		at, above := c.way[i], c.way[i+1]
		c.least[at] = min(c.least[at], c.least[above])
		c.up[at] = c.up[above]
	}
	return c.least[place]
}

// nearest gives of each place that of its Over: the first one of those over its parent that does not lie behind its head.
func nearest(t tree, heads []int) []int {
	over := slices.Clone(t.parents)
	for place, head := range heads {
		for over[place] > head {
			over[place] = over[over[place]]
		}
	}
	return over
}
