package reload

import (
	"averment/bits"
	"averment/cfg"
	"averment/fault"
	"averment/flow"
	"averment/hold"
	"averment/live"
	"averment/state"
	"averment/table"
)

// filler goes through a Table once: told is what was handed in, with what was made so far.
type filler struct {
	env    flow.Env
	told   table.Table
	sparse bool
	counts Counts
}

// all goes through everything; what is wrong is at its place.
func (x *filler) all() error {
	m := x.env.Module
	if e := hold.Start(m, x.told); e != nil {
		return e
	}
	x.counts.Cells = len(m.Cells)
	for f := range m.Funcs {
		if e := x.function(f); e != nil {
			return fault.At(e, hold.InFuncs, f)
		}
	}
	return nil
}

func (x *filler) function(f int) error {
	if e := hold.Begin(x.env.Module, x.told, f); e != nil {
		return e
	}
	if x.told.Funcs[f].Sum.Called {
		x.counts.Begins++
	}
	given := x.given(f)
	for b := range x.told.Funcs[f].Blocks {
		if e := x.block(f, b, given); e != nil {
			return fault.At(e, b)
		}
	}
	return x.lives(f, given)
}

// given are the blocks of f of which the Table tells; what is told at the others is made.
func (x *filler) given(f int) []int {
	fn := x.env.Module.Funcs[f]
	if x.sparse {
		return cfg.Cuts(fn)
	}
	var all []int
	for b := range fn.Blocks {
		all = append(all, b)
	}
	return all
}

// block holds what follows from block b of f against what is told, or makes that.
func (x *filler) block(f, b int, given []int) error {
	told, end := x.told.Funcs[f], len(x.env.Module.Funcs[f].Blocks[b].Insns)
	x.counts.Insns += end
	// One comes to a block whose State is made from blocks ahead of it alone, so that it has all by now.
	out := flow.Block(x.env, f, b, told.Blocks[b].State)
	if e := hold.Needs(x.env, out.Needs); e != nil {
		return e
	}
	x.countNeeds(out.Needs)
	for _, edge := range out.Edges {
		if e := x.edge(edge, told.Blocks, given); e != nil {
			return fault.At(e, end)
		}
	}
	if out.Returns {
		x.counts.Returns++
	}
	return fault.At(hold.Result(out, told.Sum), end)
}

func (x *filler) countNeeds(needs []flow.Need) {
	for _, n := range needs {
		if n.Store {
			x.counts.Stores++
		} else {
			x.counts.Calls++
		}
	}
}

// edge holds an Edge's State against that of the block to which it goes, or joins it to that.
func (x *filler) edge(edge flow.Edge, blocks []table.Block, given []int) error {
	if bits.Has(given, edge.To) {
		x.counts.Edges++
		return hold.Edge(edge, blocks)
	}
	to := &blocks[edge.To]
	to.State = state.Join(to.State, edge.State)
	return nil
}

// lives holds the registers that count against those that are told, or makes these, from the last block to the first.
func (x *filler) lives(f int, given []int) error {
	fn, blocks := x.env.Module.Funcs[f], x.told.Funcs[f].Blocks
	sets := make([][]int, len(blocks))
	for b := range blocks {
		sets[b] = blocks[b].Live
	}
	for b := len(blocks) - 1; b >= 0; b-- {
		if !bits.Has(given, b) {
			sets[b] = live.Block(fn, b, live.After(fn, b, sets))
			blocks[b].Live = sets[b]
			continue
		}
		x.counts.Lives++
		if e := hold.Live(fn, b, sets); e != nil {
			return fault.At(e, b)
		}
	}
	return nil
}
