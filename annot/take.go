package annot

import (
	"averment/api"
	"averment/bits"
	"averment/code"
	"averment/fact"
	"averment/fault"
	"averment/flow"
	"averment/ir"
	"averment/state"
	"averment/table"
	"averment/wire"
)

// taker takes the parts of a file. What is wrong first stays; from then on nothing more is taken.
type taker struct {
	r     *wire.Reader
	wrong error
}

// fail keeps what is wrong, if nothing was so far.
func (t *taker) fail(e error) {
	if t.wrong == nil {
		t.wrong = e
	}
}

// take takes one thing; it is zero, if something is wrong by then.
func take[T any](t *taker, one func(r *wire.Reader) (T, error)) (x T) {
	if t.wrong == nil {
		x, t.wrong = one(t.r)
	}
	return x
}

func (t *taker) byte() byte { return take(t, (*wire.Reader).Byte) }

// number takes a number with a sign.
func (t *taker) number() int64 { return take(t, (*wire.Reader).Int) }

// set takes a set of numbers below n.
func (t *taker) set(n int) []int {
	return take(t, func(r *wire.Reader) ([]int, error) { return bits.Read(r, n) })
}

// tag takes a byte that is at most most.
func (t *taker) tag(most byte) byte {
	at := t.r.At()
	b := t.byte()
	if b > most {
		t.fail(fault.At(api.ErrTag, at))
	}
	return b
}

// section takes a section, of which part takes all.
func (t *taker) section(part func()) {
	whole := t.r
	t.r = take(t, (*wire.Reader).Section)
	part()
	t.end()
	t.r = whole
}

// end is where nothing may be left.
func (t *taker) end() {
	if t.wrong == nil {
		t.wrong = t.r.End()
	}
}

// begin takes the bytes with which a file begins.
func (t *taker) begin() {
	at := t.r.At()
	b := take(t, func(r *wire.Reader) ([]byte, error) { return r.Raw(len(begin)) })
	if string(b) != begin {
		t.fail(fault.At(api.ErrForm, at))
	}
}

func (t *taker) file() (m ir.Module, told table.Table, sparse bool) {
	t.begin()
	sparse = t.tag(isSparse) == isSparse
	t.section(func() { m = take(t, code.Take) })
	told = t.table(m, sparse)
	t.end()
	return m, told, sparse
}

// table takes all that is told of m.
func (t *taker) table(m ir.Module, sparse bool) table.Table {
	told := table.Table{Cells: t.values(len(m.Cells))}
	sites := ir.Sites(m)
	for _, f := range m.Funcs {
		t.section(func() { told.Funcs = append(told.Funcs, t.function(f, sites, sparse)) })
	}
	for _, im := range m.Imports {
		told.Imports = append(told.Imports, t.sum(im.Arity))
	}
	return told
}

// function takes what is told of f, of a module that has so many sites.
func (t *taker) function(f ir.Func, sites int, sparse bool) table.Func {
	told := table.Func{Sum: t.sum(f.Arity), Blocks: make([]table.Block, len(f.Blocks))}
	for _, b := range laid(f, sparse) {
		told.Blocks[b] = table.Block{State: t.state(f.Regs, sites), Live: t.set(f.Regs)}
	}
	return told
}

// sum takes what is told of a function with so many arguments.
func (t *taker) sum(arity int) flow.Sum {
	var s flow.Sum
	how := t.tag(isCalled | returns)
	if how&isCalled != 0 {
		s.Called, s.Args = true, t.values(arity)
	}
	if how&returns != 0 {
		s.Returns, s.Result = true, t.value()
	}
	return s
}

// state takes what is told of so many registers.
func (t *taker) state(regs, sites int) state.State {
	if t.tag(isReached) != isReached {
		return state.None()
	}
	s := state.State{Reached: true, Vals: t.values(regs)}
	for range regs {
		s.Sites = append(s.Sites, t.set(sites))
	}
	return s
}

// values takes n Values.
func (t *taker) values(n int) []fact.Value {
	var list []fact.Value
	for range n {
		list = append(list, t.value())
	}
	return list
}
