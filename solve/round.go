package solve

import (
	"slices"

	"averment/cfg"
	"averment/fact"
	"averment/flow"
	"averment/ir"
	"averment/live"
	"averment/state"
	"averment/table"
	"averment/vm"
)

// solver is what was found so far: env has what is told of cells, functions and imports, blocks what is told ahead of the blocks of each function, cuts the cut points of each.
//
// It isn't kept as a Table, since flow needs an Env at each block, and table.Env makes a copy of all.
type solver struct {
	env    flow.Env
	blocks [][]table.Block
	cuts   [][]int
}

// begin tells that nothing happens, but that main and the roots are called, and that imports return anything.
func begin(m ir.Module, roots []int) *solver {
	t := table.None(m)
	if f := vm.Entry(m); f >= 0 {
		t.Funcs[f].Sum.Called = true
	}
	for _, f := range roots {
		args := slices.Repeat([]fact.Value{fact.Any()}, m.Funcs[f].Arity)
		t.Funcs[f].Sum = flow.Sum{Called: true, Args: args}
	}
	for i := range t.Imports {
		t.Imports[i] = flow.Sum{Returns: true, Result: fact.Any()}
	}
	x := &solver{env: table.Env(m, t)}
	for f, fn := range m.Funcs {
		x.blocks = append(x.blocks, t.Funcs[f].Blocks)
		x.cuts = append(x.cuts, cfg.Cuts(fn))
	}
	return x
}

// told is the Table of all that was found so far, in new memory.
func (x *solver) told() table.Table {
	t := table.Table{Cells: x.env.Cells}
	for f, blocks := range x.blocks {
		t.Funcs = append(t.Funcs, table.Func{Sum: x.env.Sums[f], Blocks: blocks})
	}
	t.Imports = x.env.Sums[len(x.blocks):]
	return table.Copy(t)
}

// round goes through all functions once.
func (x *solver) round() {
	for f := range x.blocks {
		x.begins(f)
		x.forget(f)
		for b, block := range x.blocks[f] {
			x.follow(f, flow.Block(x.env, f, b, block.State))
		}
	}
}

// begins makes room for the beginning of function f, if it is called.
func (x *solver) begins(f int) {
	m, sum := x.env.Module, x.env.Sums[f]
	if sum.Called {
		first := &x.blocks[f][0].State
		*first = grownState(*first, state.Begin(m.Funcs[f].Regs, sum.Args, ir.First(m, f)))
	}
}

// forget drops what was told at blocks of f that are no cut points: it is joined anew from what comes there in this round.
func (x *solver) forget(f int) {
	for b := range x.blocks[f] {
		if !x.isCut(f, b) {
			x.blocks[f][b].State = state.None()
		}
	}
}

func (x *solver) isCut(f, b int) bool { return slices.Contains(x.cuts[f], b) }

// follow makes room for all that follows from a block of f.
func (x *solver) follow(f int, out flow.Out) {
	for _, n := range out.Needs {
		if n.Store {
			x.env.Cells[n.To] = grown(x.env.Cells[n.To], n.Vals[0])
		} else {
			growArgs(&x.env.Sums[n.To], n.Vals)
		}
	}
	for _, e := range out.Edges {
		to := &x.blocks[f][e.To].State
		if x.isCut(f, e.To) {
			*to = grownState(*to, e.State)
		} else {
			*to = state.Join(*to, e.State)
		}
	}
	if out.Returns {
		growResult(&x.env.Sums[f], out.Result)
	}
}

// lives tells which registers count.
func (x *solver) lives() {
	for f, fn := range x.env.Module.Funcs {
		for b, set := range live.Solve(fn) {
			x.blocks[f][b].Live = set
		}
	}
}
