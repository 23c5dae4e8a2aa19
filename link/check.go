package link

import (
	"averment/api"
	"averment/fault"
	"averment/ir"
)

// The first place of an error: of which module what is wrong is a part.
const (
	inFirst  = 0
	inSecond = 1
)

// check tells what stands first against putting a and b together, but for the size of what comes about.
func check(a, b ir.Module) error {
	if e := ir.Check(a); e != nil {
		return fault.At(e, inFirst)
	}
	if e := ir.Check(b); e != nil {
		return fault.At(e, inSecond)
	}
	for f, fn := range b.Funcs {
		if hasFunc(a, fn.Name) {
			return fault.At(api.ErrDup, f)
		}
	}
	if e := checkImports(a, b); e != nil {
		return fault.At(e, inFirst)
	}
	// Imports of both with one name take as many arguments by now, so that this finds functions of a alone.
	return fault.At(checkImports(b, a), inSecond)
}

// checkImports tells the first import of m whose name something else has in other, with another count of arguments.
func checkImports(m, other ir.Module) error {
	for i, im := range m.Imports {
		if f := ir.Find(other, im.Name); f >= 0 && ir.Arity(other, f) != im.Arity {
			return fault.At(api.ErrClash, len(m.Funcs)+i)
		}
	}
	return nil
}

// checkSize tells whether there is too much in what comes about.
func checkSize(m ir.Module) error {
	if len(m.Cells) > api.MaxCells || len(m.Funcs)+len(m.Imports) > api.MaxFuncs {
		return api.ErrSize
	}
	return nil
}
