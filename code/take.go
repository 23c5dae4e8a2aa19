package code

import (
	"averment/api"
	"averment/fault"
	"averment/ir"
	"averment/wire"
)

// taker takes the parts of a module. What is wrong first stays; from then on nothing more is taken.
type taker struct {
	r     *wire.Reader
	wrong error
}

// fail keeps what is wrong, if nothing was so far.
func (t *taker) fail(e error) {
	if t.wrong == nil {
		t.wrong = e
	}
}

// list takes how many there are, at most most, and each one.
// It grows as they come: a number alone must not ask for memory.
func list[T any](t *taker, most int, one func() T) []T {
	var all []T
	for n := t.number(most); n > 0; n-- {
		x := one()
		if t.wrong != nil {
			return nil
		}
		all = append(all, x)
	}
	return all
}

// number takes a number without a sign.
func (t *taker) number(most int) int {
	if t.wrong != nil {
		return 0
	}
	n, e := t.r.Uint(uint64(most))
	t.fail(e)
	return int(n)
}

// signed takes a number with a sign.
func (t *taker) signed() int64 {
	if t.wrong != nil {
		return 0
	}
	n, e := t.r.Int()
	t.fail(e)
	return n
}

func (t *taker) register() int { return t.number(lastReg) }

// op takes an Op, which may be none yet.
func (t *taker) op() int {
	if t.wrong != nil {
		return 0
	}
	b, e := t.r.Byte()
	t.fail(e)
	return int(b)
}

// name takes a section that is a name.
func (t *taker) name() string {
	if t.wrong != nil {
		return ""
	}
	s, e := t.r.Section()
	t.fail(e)
	if e != nil {
		return ""
	}
	b, e := s.Raw(s.Left())
	t.fail(e)
	return string(b)
}

// begin takes the bytes with which a module begins.
func (t *taker) begin() {
	at := t.r.At()
	b, e := t.r.Raw(len(begin))
	t.fail(e)
	if string(b) != begin {
		t.fail(fault.At(api.ErrForm, at))
	}
}

func (t *taker) module() ir.Module {
	var m ir.Module
	t.begin()
	m.Cells = list(t, api.MaxCells, t.signed)
	m.Funcs = list(t, api.MaxFuncs, t.function)
	m.Imports = list(t, api.MaxFuncs, t.imported)
	t.fail(t.r.End())
	return m
}

func (t *taker) function() ir.Func {
	var f ir.Func
	f.Name = t.name()
	f.Arity = t.number(api.MaxArgs)
	f.Regs = t.number(api.MaxRegs)
	f.Blocks = list(t, api.MaxBlocks, t.block)
	return f
}

func (t *taker) imported() ir.Import {
	var im ir.Import
	im.Name = t.name()
	im.Arity = t.number(api.MaxArgs)
	return im
}

func (t *taker) block() ir.Block {
	var b ir.Block
	b.Insns = list(t, api.MaxInsns, t.insn)
	b.End = t.end()
	return b
}

func (t *taker) insn() ir.Insn {
	at := t.r.At()
	x := ir.Insn{Op: t.op()}
	used, known := slots(&x)
	t.slots(at, used, known)
	switch x.Op {
	case ir.Const:
		x.N = t.signed()
	case ir.Call:
		x.Args = list(t, api.MaxArgs, t.register)
	}
	return x
}

func (t *taker) end() ir.End {
	at := t.r.At()
	e := ir.End{Op: t.op()}
	used, known := endSlots(&e)
	t.slots(at, used, known)
	return e
}

// slots takes the fields that an Op uses, which stands at that place.
func (t *taker) slots(at int, used []slot, known bool) {
	if !known {
		t.fail(fault.At(api.ErrTag, at))
	}
	for _, s := range used {
		*s.field = t.number(s.most)
	}
}
