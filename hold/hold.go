// Package hold holds what follows from a Table against what the Table tells, part by part. Layers 19 and 20 ask the same of each part, each in its own order, and neither calls the other.
//
// All calls are of a module and its Table in normal form. Each tells nil, or that something doesn't follow, at its place in what it is asked of.
package hold

import (
	"slices"

	"averment/api"
	"averment/bits"
	"averment/fact"
	"averment/fault"
	"averment/flow"
	"averment/ir"
	"averment/live"
	"averment/state"
	"averment/table"
	"averment/vm"
)

// The first place of an error: of which list what doesn't follow is a part.
const (
	inCells = 0
	InFuncs = 1
)

// Start is of what a run begins with: each cell's number, and the function with which m begins.
func Start(m ir.Module, t table.Table) error {
	for c, n := range m.Cells {
		if !fact.Within(fact.Of(n), t.Cells[c]) {
			return fault.At(api.ErrEdge, inCells, c)
		}
	}
	if f := vm.Entry(m); f >= 0 && !t.Funcs[f].Sum.Called {
		return fault.At(api.ErrEdge, InFuncs, f)
	}
	return nil
}

// Begin is of the beginning of function f.
func Begin(m ir.Module, t table.Table, f int) error {
	told := t.Funcs[f]
	if !told.Sum.Called {
		return nil
	}
	begin := state.Begin(m.Funcs[f].Regs, told.Sum.Args, ir.First(m, f))
	return unless(state.Within(begin, told.Blocks[0].State))
}

// Needs is of a block's Needs, each at its instruction.
func Needs(e flow.Env, needs []flow.Need) error {
	for _, n := range needs {
		if !isMet(e, n) {
			return fault.At(api.ErrEdge, n.Insn)
		}
	}
	return nil
}

// isMet tells whether the cell, or the function that is called, is told to have what it gets.
func isMet(e flow.Env, n flow.Need) bool {
	if n.Store {
		return fact.Within(n.Vals[0], e.Cells[n.To])
	}
	called := e.Sums[n.To]
	return called.Called && slices.EqualFunc(n.Vals, called.Args, fact.Within)
}

// Edge is of an Edge to one of blocks.
func Edge(x flow.Edge, blocks []table.Block) error {
	return unless(state.Within(x.State, blocks[x.To].State))
}

// Result is of what a block of a function with that Sum returns, if it does.
func Result(out flow.Out, s flow.Sum) error {
	return unless(!out.Returns || s.Returns && fact.Within(out.Result, s.Result))
}

// Live is of the registers that count ahead of block b, if those of lives count ahead of each block.
func Live(f ir.Func, b int, lives [][]int) error {
	return unless(bits.Within(live.Block(f, b, live.After(f, b, lives)), lives[b]))
}

// unless is nil, if it follows.
func unless(follows bool) error {
	if follows {
		return nil
	}
	return api.ErrEdge
}
