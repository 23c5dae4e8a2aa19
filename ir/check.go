package ir

import (
	"averment/api"
	"averment/fault"
)

// Check tells what is wrong with m first, and where: nil, if m is well-formed.
func Check(m Module) error {
	if len(m.Cells) > api.MaxCells || len(m.Funcs)+len(m.Imports) > api.MaxFuncs {
		return api.ErrSize
	}
	for f := range m.Funcs {
		if e := checkFunc(m, f); e != nil {
			return fault.At(e, f)
		}
	}
	for i := range m.Imports {
		if e := checkImport(m, i); e != nil {
			return fault.At(e, len(m.Funcs)+i)
		}
	}
	return nil
}

func checkFunc(m Module, f int) error {
	if e := checkHead(m, f); e != nil {
		return e
	}
	for b := range m.Funcs[f].Blocks {
		if e := checkBlock(m, f, b); e != nil {
			return fault.At(e, b)
		}
	}
	return nil
}

// checkHead looks at all of a function but what is in its blocks.
func checkHead(m Module, f int) error {
	fn := m.Funcs[f]
	switch {
	case !isName(fn.Name):
		return api.ErrName
	case named(m.Funcs[:f], fn.Name):
		return api.ErrSymbol
	case !isArity(fn.Arity):
		return api.ErrArity
	case fn.Regs < 1 || fn.Regs > api.MaxRegs || fn.Regs < fn.Arity:
		return api.ErrReg
	case len(fn.Blocks) < 1 || len(fn.Blocks) > api.MaxBlocks:
		return api.ErrSize
	}
	return nil
}

// isName tells whether s may be a function's name.
func isName(s string) bool {
	if len(s) < 1 || len(s) > api.MaxName || !isLetter(s[0]) {
		return false
	}
	for i := range len(s) {
		if !isLetter(s[i]) && !isDigit(s[i]) {
			return false
		}
	}
	return true
}

func isLetter(c byte) bool { return c >= 'a' && c <= 'z' }

func isDigit(c byte) bool { return c >= '0' && c <= '9' }

func isArity(n int) bool { return n >= 0 && n <= api.MaxArgs }

// named tells whether one of funcs has that name.
func named(funcs []Func, name string) bool {
	for _, f := range funcs {
		if f.Name == name {
			return true
		}
	}
	return false
}

func checkBlock(m Module, f, b int) error {
	block := m.Funcs[f].Blocks[b]
	if len(block.Insns) > api.MaxInsns {
		return api.ErrSize
	}
	for i, x := range block.Insns {
		if e := checkInsn(m, m.Funcs[f].Regs, x); e != nil {
			return fault.At(e, i)
		}
	}
	return fault.At(checkEnd(m.Funcs[f], block.End), len(block.Insns))
}

// checkInsn looks at an instruction of a function that has so many registers.
func checkInsn(m Module, regs int, x Insn) error {
	need, known := needs(x.Op)
	switch {
	case !known:
		return api.ErrTag
	case hasUnused(x, need):
		return api.ErrForm
	// What isn't used is 0 by now, which every function has as a register.
	case !within(x.D, regs), !within(x.A, regs), need.b == aRegister && !within(x.B, regs):
		return api.ErrReg
	case need.b == aCell && !within(x.B, len(m.Cells)):
		return api.ErrRange
	case need.b == aFunction:
		return checkCall(m, regs, x)
	}
	return nil
}

// hasUnused tells whether there is something in a field that isn't needed.
func hasUnused(x Insn, need fields) bool {
	return x.D != 0 && !need.d || x.A != 0 && !need.a || x.B != 0 && need.b == nothing ||
		x.N != 0 && !need.n || len(x.Args) > 0 && !need.args
}

// checkCall looks at what is called, and with what.
func checkCall(m Module, regs int, x Insn) error {
	if !isFunc(m, x.B) && !isImport(m, x.B) {
		return api.ErrSymbol
	}
	if len(x.Args) != Arity(m, x.B) {
		return api.ErrArity
	}
	for _, r := range x.Args {
		if !within(r, regs) {
			return api.ErrReg
		}
	}
	return nil
}

func checkEnd(f Func, e End) error {
	need, known := endNeeds(e.Op)
	switch {
	case !known:
		return api.ErrTag
	case e.A != 0 && !need.a || e.To != 0 && !need.to || e.Else != 0 && !need.other:
		return api.ErrForm
	// As with instructions: what isn't used is 0, which every function has as a register and as a block.
	case !within(e.A, f.Regs):
		return api.ErrReg
	case !within(e.To, len(f.Blocks)), !within(e.Else, len(f.Blocks)):
		return api.ErrLabel
	}
	return nil
}

func checkImport(m Module, i int) error {
	im := m.Imports[i]
	switch {
	case !isName(im.Name):
		return api.ErrName
	case i > 0 && im.Name <= m.Imports[i-1].Name:
		return api.ErrForm
	case named(m.Funcs, im.Name):
		return api.ErrSymbol
	case !isArity(im.Arity):
		return api.ErrArity
	}
	return nil
}
