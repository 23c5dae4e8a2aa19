package code

import (
	"averment/ir"
	"averment/wire"
)

// writer lays the parts of a well-formed module.
type writer struct{ *wire.Writer }

// lay lays how many there are, and each one.
func lay[T any](w *writer, list []T, one func(T)) {
	w.number(len(list))
	for _, x := range list {
		one(x)
	}
}

func (w *writer) number(n int) { w.Uint(uint64(n)) }

func (w *writer) function(f ir.Func) {
	w.Section([]byte(f.Name))
	w.number(f.Arity)
	w.number(f.Regs)
	lay(w, f.Blocks, w.block)
}

func (w *writer) imported(im ir.Import) {
	w.Section([]byte(im.Name))
	w.number(im.Arity)
}

func (w *writer) block(b ir.Block) {
	lay(w, b.Insns, w.insn)
	w.Byte(byte(b.End.Op))
	used, _ := endSlots(&b.End)
	w.slots(used)
}

func (w *writer) insn(x ir.Insn) {
	w.Byte(byte(x.Op))
	used, _ := slots(&x)
	w.slots(used)
	switch x.Op {
	case ir.Const:
		w.Int(x.N)
	case ir.Call:
		lay(w, x.Args, w.number)
	}
}

func (w *writer) slots(used []slot) {
	for _, s := range used {
		w.number(*s.field)
	}
}
