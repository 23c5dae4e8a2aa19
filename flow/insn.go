package flow

import (
	"averment/fact"
	"averment/ir"
	"averment/state"
)

// Insn tells what is so behind an instruction, if s is told ahead of it, and what must follow elsewhere.
func Insn(e Env, f, b, i int, s state.State) (state.State, []Need) {
	if !s.Reached {
		return state.None(), nil
	}
	x, ok := insnAt(e.Module, f, b, i)
	if !ok {
		return state.Copy(s), nil
	}
	needs := needsOf(x, i, s)
	d, sets := ir.Sets(x)
	if !sets {
		return state.Copy(s), needs
	}
	v, ok := result(e, x, s)
	if !ok {
		return state.None(), needs
	}
	return state.Set(s, d, v, ir.Site(e.Module, f, b, i)), needs
}

// insnAt is an instruction; false: there is none.
func insnAt(m ir.Module, f, b, i int) (ir.Insn, bool) {
	block, ok := blockAt(m, f, b)
	if !ok || i < 0 || i >= len(block.Insns) {
		return ir.Insn{}, false
	}
	return block.Insns[i], true
}

// needsOf is what must follow elsewhere from instruction x, the block's i.
func needsOf(x ir.Insn, i int, s state.State) []Need {
	switch x.Op {
	case ir.Store:
		return []Need{{Insn: i, Store: true, To: x.B, Vals: []fact.Value{at(s.Vals, x.A)}}}
	case ir.Call:
		need := Need{Insn: i, To: x.B}
		for _, r := range x.Args {
			need.Vals = append(need.Vals, at(s.Vals, r))
		}
		return []Need{need}
	}
	return nil
}

// result is what is told of the number that x gives its D; false: there is none, so that nobody comes behind x.
func result(e Env, x ir.Insn, s state.State) (fact.Value, bool) {
	switch x.Op {
	case ir.Const:
		return fact.Of(x.N), true
	case ir.Input:
		return fact.Any(), true
	case ir.Load:
		return at(e.Cells, x.B), true
	case ir.Call:
		sum := at(e.Sums, x.B)
		return sum.Result, sum.Returns
	case ir.Move, ir.Neg:
		return fact.One(x.Op, at(s.Vals, x.A))
	}
	return fact.Two(x.Op, at(s.Vals, x.A), at(s.Vals, x.B))
}
