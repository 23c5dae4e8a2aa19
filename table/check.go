package table

import (
	"averment/api"
	"averment/bits"
	"averment/cfg"
	"averment/fact"
	"averment/fault"
	"averment/flow"
	"averment/ir"
	"averment/state"
)

// The first place of an error: of which list what is wrong is a part.
const (
	inCells   = 0
	inFuncs   = 1
	inImports = 2
)

// Check tells what is wrong with t first, and where: nil, if it fits m and is in normal form, whole or sparse.
func Check(m ir.Module, t Table, sparse bool) error {
	if e := ir.Check(m); e != nil {
		return e
	}
	if len(t.Cells) != len(m.Cells) || len(t.Funcs) != len(m.Funcs) || len(t.Imports) != len(m.Imports) {
		return api.ErrShape
	}
	for c, v := range t.Cells {
		if !fact.Right(v) {
			return fault.At(api.ErrFact, inCells, c)
		}
	}
	sites := ir.Sites(m)
	for f, told := range t.Funcs {
		if e := checkFunc(m.Funcs[f], told, sites, sparse); e != nil {
			return fault.At(e, inFuncs, f)
		}
	}
	for i, s := range t.Imports {
		if e := checkSum(s, m.Imports[i].Arity); e != nil {
			return fault.At(e, inImports, i)
		}
	}
	return nil
}

func checkFunc(f ir.Func, told Func, sites int, sparse bool) error {
	if e := checkSum(told.Sum, f.Arity); e != nil {
		return e
	}
	if len(told.Blocks) != len(f.Blocks) {
		return api.ErrShape
	}
	cuts := cfg.Cuts(f)
	for b, block := range told.Blocks {
		if e := checkBlock(block, f.Regs, sites, sparse && !bits.Has(cuts, b)); e != nil {
			return fault.At(e, b)
		}
	}
	return nil
}

// checkSum looks at what is told of a function with so many arguments.
func checkSum(s flow.Sum, arity int) error {
	if !s.Called {
		arity = 0
	}
	if len(s.Args) != arity {
		return api.ErrShape
	}
	for _, v := range s.Args {
		if !fact.Right(v) {
			return api.ErrFact
		}
	}
	if s.Returns && !fact.Right(s.Result) || !s.Returns && s.Result != (fact.Value{}) {
		return api.ErrFact
	}
	return nil
}

// checkBlock looks at what is told ahead of a block of a function with so many registers; bare: nothing may be.
func checkBlock(b Block, regs, sites int, bare bool) error {
	told := 0
	if b.State.Reached {
		told = regs
	}
	switch {
	case len(b.State.Vals) != told || len(b.State.Sites) != told:
		return api.ErrShape
	// The counts are right by now, so that no more than Values and sets can be wrong.
	case !state.Right(b.State, regs, sites) || !bits.Right(regs, b.Live):
		return api.ErrFact
	case bare && (b.State.Reached || len(b.Live) > 0):
		return api.ErrShape
	}
	return nil
}
