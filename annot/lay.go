package annot

import (
	"averment/bits"
	"averment/fact"
	"averment/flow"
	"averment/ir"
	"averment/state"
	"averment/table"
	"averment/wire"
)

// writer lays the parts of a Table in normal form. What is wrong first stays.
type writer struct {
	*wire.Writer
	wrong error
}

// fail keeps what is wrong, if nothing was so far.
func (w *writer) fail(e error) {
	if w.wrong == nil {
		w.wrong = e
	}
}

// table lays all that is told of m.
func (w *writer) table(m ir.Module, t table.Table, sparse bool) {
	w.values(t.Cells)
	sites := ir.Sites(m)
	for f, told := range t.Funcs {
		part := &writer{Writer: wire.New()}
		part.function(m.Funcs[f], told, sites, sparse)
		w.fail(part.wrong)
		w.Section(part.Bytes())
	}
	for _, s := range t.Imports {
		w.sum(s)
	}
}

// function lays what is told of f, of a module that has so many sites.
func (w *writer) function(f ir.Func, told table.Func, sites int, sparse bool) {
	w.sum(told.Sum)
	for _, b := range laid(f, sparse) {
		w.state(told.Blocks[b].State, sites)
		w.set(f.Regs, told.Blocks[b].Live)
	}
}

// sum lays a Sum: one that isn't Called has no Args.
func (w *writer) sum(s flow.Sum) {
	w.Byte(bit(s.Called, isCalled) | bit(s.Returns, returns))
	w.values(s.Args)
	if s.Returns {
		w.value(s.Result)
	}
}

// state lays a State: one that isn't Reached has neither Values nor sets.
func (w *writer) state(s state.State, sites int) {
	w.Byte(bit(s.Reached, isReached))
	w.values(s.Vals)
	for _, set := range s.Sites {
		w.set(sites, set)
	}
}

func (w *writer) values(list []fact.Value) {
	for _, v := range list {
		w.value(v)
	}
}

func (w *writer) value(v fact.Value) { layValue(w.Writer, v) }

// set lays a set of numbers below n.
func (w *writer) set(n int, set []int) { w.fail(bits.Write(w.Writer, n, set)) }
