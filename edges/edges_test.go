package edges

import (
	"fmt"
	"testing"

	"averment/fact"
	"averment/fault"
	"averment/flow"
	"averment/ir"
	"averment/known"
	"averment/live"
	"averment/span"
	"averment/state"
	"averment/table"
)

// from is a Value that tells nothing but a Span.
func from(lo, hi int64) fact.Value {
	v := fact.Any()
	v.Span = span.Span{Lo: lo, Hi: hi}
	return v
}

// having is Reached, with Values and a set of sites for each register, by turns.
func having(parts ...any) state.State {
	s := state.State{Reached: true}
	for i := 0; i < len(parts); i += 2 {
		s.Vals = append(s.Vals, parts[i].(fact.Value))
		s.Sites = append(s.Sites, parts[i+1].([]int))
	}
	return s
}

type set = []int

func fn(name string, arity, regs int, blocks ...ir.Block) ir.Func {
	return ir.Func{Name: name, Arity: arity, Regs: regs, Blocks: blocks}
}

func block(end ir.End, insns ...ir.Insn) ir.Block { return ir.Block{Insns: insns, End: end} }

func jump(to int) ir.End { return ir.End{Op: ir.Jump, To: to} }

func branch(a, to, other int) ir.End { return ir.End{Op: ir.Branch, A: a, To: to, Else: other} }

func back(a int) ir.End { return ir.End{Op: ir.Return, A: a} }

func number(d int, n int64) ir.Insn { return ir.Insn{Op: ir.Const, D: d, N: n} }

func store(a, cell int) ir.Insn { return ir.Insn{Op: ir.Store, A: a, B: cell} }

func call(d, f int, args ...int) ir.Insn { return ir.Insn{Op: ir.Call, D: d, B: f, Args: args} }

func two(op, d, a, b int) ir.Insn { return ir.Insn{Op: op, D: d, A: a, B: b} }

// calling is a module: main calls g again and again, g calls the import h. Its sites: main's registers 0 and 1, Const 2, Call 3; g's registers 4 and 5, Call 6, Sub 7.
func calling() ir.Module {
	return ir.Module{
		Cells: []int64{5, 0},
		Funcs: []ir.Func{
			fn("main", 0, 2,
				block(jump(1), number(0, 3), store(0, 1)),
				block(branch(1, 1, 2), call(1, 1, 0, 1)),
				block(back(0), ir.Insn{Op: ir.Output, A: 1})),
			fn("g", 2, 2,
				block(branch(1, 1, 2), call(1, 2, 0), store(1, 0)),
				block(back(0), two(ir.Sub, 0, 0, 1)),
				block(back(1))),
		},
		Imports: []ir.Import{{Name: "h", Arity: 1}, {Name: "i"}},
	}
}

// following is a Table of calling that follows, and tells hardly less than it could.
func following() table.Table {
	bit := fact.Join(fact.Of(0), fact.Of(1))
	nonzero := fact.Value{Sign: 4, Known: known.Any(), Span: span.Of(1), Parity: 3}
	three := fact.Of(3)
	return table.Table{
		Cells: []fact.Value{from(0, 5), from(0, 3)},
		Funcs: []table.Func{
			{Sum: flow.Sum{Called: true, Returns: true, Result: three}, Blocks: []table.Block{
				{State: having(fact.Of(0), set{0}, fact.Of(0), set{1}), Live: set{1}},
				{State: having(three, set{2}, from(0, 2), set{1, 3}), Live: set{0, 1}},
				{State: having(three, set{2}, fact.Of(0), set{3}), Live: set{0, 1}},
			}},
			{Sum: flow.Sum{Called: true, Args: []fact.Value{three, from(0, 2)}, Returns: true, Result: from(0, 2)}, Blocks: []table.Block{
				{State: having(three, set{4}, from(0, 2), set{5}), Live: set{0}},
				{State: having(three, set{4}, nonzero, set{6}), Live: set{0, 1}},
				{State: having(three, set{4}, fact.Of(0), set{6}), Live: set{1}},
			}},
		},
		Imports: []flow.Sum{{Called: true, Args: []fact.Value{three}, Returns: true, Result: bit}, {}},
	}
}

// wantEdge holds what Check tells against a text.
func wantEdge(t *testing.T, about string, m ir.Module, x table.Table, want string) {
	t.Helper()
	if e := Check(m, x); fault.Text(e) != want {
		t.Errorf("%s: got %s, want %s", about, fault.Text(e), want)
	}
}

// change is something that doesn't follow any more, at a place; mild: what it changes makes other places go away, so that it is told alone.
type change struct {
	about  string
	want   string
	mild   bool
	change func(x *table.Table)
}

// changes are such of following, in the order of their places, each of which alone is wrong.
func changes() []change {
	at := func(x *table.Table, f, b int) *table.Block { return &x.Funcs[f].Blocks[b] }
	return []change{
		{"what cell 0 begins with", "0.0 edge", false, func(x *table.Table) { x.Cells[0] = from(0, 4) }},
		{"what cell 1 begins with", "0.1 edge", false, func(x *table.Table) { x.Cells[1] = from(1, 3) }},
		{"main isn't Called", "1.0 edge", false, func(x *table.Table) { x.Funcs[0].Sum.Called = false }},
		{"a register's number at main's beginning", "1.0 edge", false, func(x *table.Table) { at(x, 0, 0).State.Vals[1] = fact.Of(1) }},
		{"a register's site at main's beginning", "1.0 edge", false, func(x *table.Table) { at(x, 0, 0).State.Sites[0] = set{1} }},
		{"nobody comes to main's beginning", "1.0 edge", true, func(x *table.Table) { at(x, 0, 0).State = state.None() }},
		{"what is stored", "1.0.0.1 edge", false, func(x *table.Table) { x.Cells[1] = from(0, 2) }},
		{"a site behind a Jump", "1.0.0.2 edge", false, func(x *table.Table) { at(x, 0, 1).State.Sites[0] = nil }},
		{"nobody comes to where a Jump goes", "1.0.0.2 edge", true, func(x *table.Table) { at(x, 0, 1).State = state.None() }},
		{"registers of block 0", "1.0.0 edge", false, func(x *table.Table) { at(x, 0, 0).Live = nil }},
		{"an argument", "1.0.1.0 edge", false, func(x *table.Table) {
			x.Funcs[1].Sum.Called, x.Funcs[1].Sum.Args = true, []fact.Value{fact.Of(3), from(0, 1)}
		}},
		{"what is called isn't Called", "1.0.1.0 edge", false, func(x *table.Table) { x.Funcs[1].Sum.Called, x.Funcs[1].Sum.Args = false, nil }},
		{"a site of the Edge that comes back", "1.0.1.1 edge", false, func(x *table.Table) { at(x, 0, 1).State.Sites[1] = set{1} }},
		{"a number of the Edge to Else", "1.0.1.1 edge", false, func(x *table.Table) { at(x, 0, 2).State.Vals[1] = fact.Of(1) }},
		{"nobody comes to Else", "1.0.1.1 edge", true, func(x *table.Table) { at(x, 0, 2).State = state.None() }},
		{"registers of a loop", "1.0.1 edge", false, func(x *table.Table) { at(x, 0, 1).Live = set{1} }},
		{"main doesn't Return", "1.0.2.1 edge", false, func(x *table.Table) { x.Funcs[0].Sum.Returns, x.Funcs[0].Sum.Result = false, fact.Value{} }},
		{"main's Result", "1.0.2.1 edge", false, func(x *table.Table) { x.Funcs[0].Sum.Result = fact.Of(2) }},
		{"registers of the last block", "1.0.2 edge", false, func(x *table.Table) { at(x, 0, 2).Live = set{0} }},
		{"g's beginning", "1.1 edge", false, func(x *table.Table) { at(x, 1, 0).State.Vals[1] = from(0, 1) }},
		{"an import's argument", "1.1.0.0 edge", false, func(x *table.Table) {
			x.Imports[0].Called, x.Imports[0].Args = true, []fact.Value{fact.Of(2)}
		}},
		{"the import isn't Called", "1.1.0.0 edge", false, func(x *table.Table) { x.Imports[0].Called, x.Imports[0].Args = false, nil }},
		{"what an import returns is stored", "1.1.0.1 edge", false, func(x *table.Table) { x.Cells[0] = from(1, 5) }},
		{"a number of the Edge to To", "1.1.0.2 edge", false, func(x *table.Table) { at(x, 1, 1).State.Vals[1] = fact.Of(1) }},
		{"registers of g's block 0", "1.1.0 edge", false, func(x *table.Table) { at(x, 1, 0).Live = set{1} }},
		{"g's Result, of block 1", "1.1.1.1 edge", false, func(x *table.Table) { x.Funcs[1].Sum.Result = from(0, 1) }},
		{"registers of g's block 1", "1.1.1 edge", false, func(x *table.Table) { at(x, 1, 1).Live = set{1} }},
		{"g's Result, of block 2", "1.1.2.0 edge", true, func(x *table.Table) { x.Funcs[1].Sum.Result = from(1, 2) }},
		{"registers of g's block 2", "1.1.2 edge", false, func(x *table.Table) { at(x, 1, 2).Live = set{0} }},
	}
}

// P19.1: each place at which something may not follow, alone.
func TestEachPlace(t *testing.T) {
	wantEdge(t, "nothing is wrong", calling(), following(), "ok")
	for _, c := range changes() {
		x := following()
		c.change(&x)
		wantEdge(t, c.about, calling(), x, c.want)
	}
}

// P19.1: of two places the first one is told.
func TestTheFirstPlace(t *testing.T) {
	all := changes()
	for i, first := range all {
		for _, later := range all[i+1:] {
			if first.mild || later.mild {
				continue
			}
			// What both change is as the first one has it.
			x := following()
			later.change(&x)
			first.change(&x)
			wantEdge(t, first.about+", and "+later.about, calling(), x, first.want)
		}
	}
}

// P19.1: errors of table.Check are ahead of all else, with their places.
func TestErrorsOfTheTable(t *testing.T) {
	for _, c := range []struct {
		about, want string
		change      func(m *ir.Module, x *table.Table)
	}{
		{"the module", "1.2.0 register", func(m *ir.Module, x *table.Table) { m.Funcs[1].Blocks[2].End.A = 2 }},
		{"too many cells", "size", func(m *ir.Module, x *table.Table) { m.Cells = make([]int64, 17) }},
		{"fewer cells", "shape", func(m *ir.Module, x *table.Table) { x.Cells = x.Cells[:1] }},
		{"no functions", "shape", func(m *ir.Module, x *table.Table) { x.Funcs = nil }},
		{"no imports", "shape", func(m *ir.Module, x *table.Table) { x.Imports = nil }},
		{"a cell", "0.1 fact", func(m *ir.Module, x *table.Table) { x.Cells[1] = fact.Value{} }},
		{"fewer Args", "1.1 shape", func(m *ir.Module, x *table.Table) { x.Funcs[1].Sum.Args = x.Funcs[1].Sum.Args[:1] }},
		{"Args of what isn't Called", "1.1 shape", func(m *ir.Module, x *table.Table) { x.Funcs[1].Sum.Called = false }},
		{"a Result of what doesn't Return", "1.1 fact", func(m *ir.Module, x *table.Table) { x.Funcs[1].Sum.Returns = false }},
		{"fewer blocks", "1.1 shape", func(m *ir.Module, x *table.Table) { x.Funcs[1].Blocks = x.Funcs[1].Blocks[:2] }},
		{"fewer registers", "1.1.2 shape", func(m *ir.Module, x *table.Table) {
			s := &x.Funcs[1].Blocks[2].State
			s.Vals, s.Sites = s.Vals[:1], s.Sites[:1]
		}},
		{"a site that is none", "1.1.2 fact", func(m *ir.Module, x *table.Table) { x.Funcs[1].Blocks[2].State.Sites[1] = set{8} }},
		{"a register that is none", "1.1.2 fact", func(m *ir.Module, x *table.Table) { x.Funcs[1].Blocks[2].Live = set{2} }},
		{"the last import", "2.1 fact", func(m *ir.Module, x *table.Table) { x.Imports[1].Result = fact.Any() }},
	} {
		m, x := calling(), following()
		c.change(&m, &x)
		wantEdge(t, c.about, m, x, c.want)
		for _, wrong := range changes()[:4] {
			m, x := calling(), following()
			wrong.change(&x)
			c.change(&m, &x)
			wantEdge(t, c.about+", and "+wrong.about, m, x, c.want)
		}
	}
	wantEdge(t, "nothing is told", calling(), table.Table{}, "shape")
	wantEdge(t, "of nothing", ir.Module{}, following(), "shape")
	// Check isn't of sparse Tables: what they don't tell nobody comes to.
	wantEdge(t, "cut points alone", calling(), table.Sparse(calling(), following()), "1.0.1.1 edge")
}

// bare is None, but for the registers that count, as few as can be.
func bare(m ir.Module) table.Table {
	x := table.None(m)
	for f := range m.Funcs {
		for b, counts := range live.Solve(m.Funcs[f]) {
			x.Funcs[f].Blocks[b].Live = counts
		}
	}
	return x
}

// P19.1: what begins, and what doesn't.
func TestBeginnings(t *testing.T) {
	wantEdge(t, "the module without anything", ir.Module{}, table.Table{}, "ok")
	wantEdge(t, "empty lists", ir.Module{Cells: []int64{}}, table.Table{Cells: []fact.Value{}, Funcs: []table.Func{}, Imports: []flow.Sum{}}, "ok")
	m := calling()
	wantEdge(t, "None", m, table.None(m), "1.0 edge")
	x := table.None(m)
	x.Cells[1] = fact.Of(1)
	wantEdge(t, "None, and another number in a cell", m, x, "0.1 edge")
	wantEdge(t, "nobody comes anywhere", m, bare(m), "1.0 edge")
	m.Funcs[0].Name = "domain"
	wantEdge(t, "without main", m, bare(m), "ok")
	wantEdge(t, "without main, and no register counts", m, table.None(m), "1.0.1 edge")
	x = following()
	x.Funcs[0].Sum.Called = false
	wantEdge(t, "without main, all the rest", m, x, "ok")
	// A main that takes something isn't what the module begins with; nor is an import.
	takes := ir.Module{Funcs: []ir.Func{fn("main", 1, 1, block(back(0)))}}
	wantEdge(t, "main takes an argument", takes, bare(takes), "ok")
	imports := ir.Module{Imports: []ir.Import{{Name: "main"}}}
	wantEdge(t, "main is an import", imports, table.None(imports), "ok")
	cells := ir.Module{Cells: []int64{3, -3}}
	wantEdge(t, "cells alone", cells, table.None(cells), "ok")
	wantEdge(t, "cells with more", cells, table.Table{Cells: []fact.Value{from(3, 9), fact.Any()}}, "ok")
	wantEdge(t, "cells with others", cells, table.Table{Cells: []fact.Value{from(3, 9), from(-2, 9)}}, "0.1 edge")
	second := ir.Module{Funcs: []ir.Func{fn("f", 0, 1, block(back(0))), fn("main", 0, 1, block(back(0)))}}
	x = bare(second)
	wantEdge(t, "main is the second one", second, x, "1.1 edge")
	x.Funcs[0].Sum.Called = true
	wantEdge(t, "main is ahead of a beginning that isn't told", second, x, "1.1 edge")
	x.Funcs[1].Sum.Called = true
	wantEdge(t, "two beginnings that aren't told", second, x, "1.0 edge")
}

// P19.1: whether a function is Called counts for its beginning alone: its blocks are looked at as they are told.
func TestOfWhatIsntCalled(t *testing.T) {
	m := ir.Module{Cells: []int64{0}, Funcs: []ir.Func{
		fn("f", 1, 1, block(jump(1)), block(jump(1), store(0, 0), call(0, 0, 0)), block(back(0), call(0, 0, 0))),
	}}
	x := bare(m)
	wantEdge(t, "nobody comes anywhere", m, x, "ok")
	x.Funcs[0].Blocks[0].State = having(from(1, 2), set{0})
	wantEdge(t, "it goes on to where nobody comes", m, x, "1.0.0.0 edge")
	x.Funcs[0].Blocks[1].State = having(from(0, 2), set{0})
	wantEdge(t, "it stores", m, x, "1.0.1.0 edge")
	x.Cells[0] = from(0, 2)
	wantEdge(t, "it calls", m, x, "1.0.1.1 edge")
	x.Funcs[0].Sum = flow.Sum{Called: true, Args: []fact.Value{from(0, 2)}}
	wantEdge(t, "it has called itself", m, x, "1.0 edge")
	x.Funcs[0].Blocks[0].State = having(from(0, 2), set{0})
	// Behind a call of what doesn't Return nobody comes, so that nothing goes back to block 1.
	wantEdge(t, "all follows", m, x, "ok")
	x.Funcs[0].Sum.Returns, x.Funcs[0].Sum.Result = true, fact.Of(7)
	wantEdge(t, "it Returns: what it is told to comes back to block 1", m, x, "1.0.1.2 edge")
	x.Funcs[0].Blocks[1].State = having(from(0, 7), set{0, 1})
	wantEdge(t, "what comes back is stored", m, x, "1.0.1.0 edge")
	x.Cells[0] = from(0, 7)
	wantEdge(t, "and handed in", m, x, "1.0.1.1 edge")
	x.Funcs[0].Sum.Args[0] = from(0, 7)
	x.Funcs[0].Blocks[0].State = having(from(0, 7), set{0})
	wantEdge(t, "all follows again", m, x, "ok")
}

// P19.1: registers count ahead of blocks to which nobody comes, too.
func TestRegistersWhereNobodyComes(t *testing.T) {
	m := ir.Module{Funcs: []ir.Func{fn("f", 0, 3, block(jump(2), number(0, 1)), block(branch(0, 0, 2)), block(back(1), two(ir.Add, 1, 1, 2)))}}
	x := table.None(m)
	// What counts ahead of block 2 counts behind the others, which come first.
	wantEdge(t, "none counts", m, x, "1.0.1 edge")
	x.Funcs[0].Blocks[1].Live = set{0}
	wantEdge(t, "the last block", m, x, "1.0.2 edge")
	x.Funcs[0].Blocks[2].Live = set{1, 2}
	wantEdge(t, "what counts behind the first block", m, x, "1.0.0 edge")
	x.Funcs[0].Blocks[0].Live = set{1, 2}
	wantEdge(t, "what counts behind block 1 by way of Else", m, x, "1.0.1 edge")
	x.Funcs[0].Blocks[1].Live = set{0, 1, 2}
	wantEdge(t, "all that counts", m, x, "ok")
	x.Funcs[0].Blocks[0].Live = set{0, 1, 2}
	wantEdge(t, "more than counts", m, x, "ok")
	x.Funcs[0].Blocks[0].Live = set{0, 1}
	wantEdge(t, "others than count", m, x, "1.0.0 edge")
}

// P19.1: an import is called with what is told of it, and what comes back is what is told of that.
func TestImports(t *testing.T) {
	m := calling()
	x := following()
	x.Imports[1] = flow.Sum{Called: true, Returns: true, Result: fact.Of(9)}
	wantEdge(t, "one that nobody calls may be told to be Called, and to Return", m, x, "ok")
	x.Imports[0].Args[0] = fact.Any()
	wantEdge(t, "an import is told to take more", m, x, "ok")
	x.Imports[0].Result = fact.Of(2)
	wantEdge(t, "it returns another number", m, x, "1.1.0.2 edge")
	x.Imports[0].Result = fact.Of(6)
	wantEdge(t, "it returns a number that no cell has", m, x, "1.1.0.1 edge")
	x.Imports[0].Returns, x.Imports[0].Result = false, fact.Value{}
	wantEdge(t, "it doesn't Return: nobody comes behind its call", m, x, "ok")
	x.Funcs[1].Blocks[1].State, x.Funcs[1].Blocks[2].State = state.None(), state.None()
	x.Funcs[1].Sum.Returns, x.Funcs[1].Sum.Result = false, fact.Value{}
	x.Funcs[0].Blocks[2].State = state.None()
	x.Funcs[0].Sum.Returns, x.Funcs[0].Sum.Result = false, fact.Value{}
	wantEdge(t, "so g doesn't Return either, nor does main", m, x, "ok")
	x.Imports[0].Called, x.Imports[0].Args = false, nil
	wantEdge(t, "it is called all the same", m, x, "1.1.0.0 edge")
	none := ir.Module{Funcs: []ir.Func{fn("main", 0, 1, block(back(0), call(0, 2)))}, Imports: []ir.Import{{Name: "a"}, {Name: "b"}}}
	x = table.Any(none)
	x.Imports[0].Called = false
	wantEdge(t, "the other import isn't Called", none, x, "ok")
	x.Imports[1].Called = false
	wantEdge(t, "one without arguments isn't Called", none, x, "1.0.0.0 edge")
}

// P19.1: within a block: Needs in order, then Edges, then what is returned, then registers.
func TestWithinABlock(t *testing.T) {
	m := ir.Module{Cells: []int64{0, 0}, Funcs: []ir.Func{fn("main", 0, 2,
		block(branch(1, 0, 1), number(0, 1), store(0, 0), store(0, 1), call(1, 1, 0), store(1, 0), two(ir.Div, 1, 1, 1)),
		block(back(0)))},
		Imports: []ir.Import{{Name: "g", Arity: 1}},
	}
	x := table.Any(m)
	zero := fact.Of(0)
	x.Cells[0], x.Cells[1] = zero, zero
	wantEdge(t, "the first Store", m, x, "1.0.0.1 edge")
	x.Cells[0] = from(0, 1)
	wantEdge(t, "the second one, in another cell", m, x, "1.0.0.2 edge")
	x.Cells[1] = from(0, 1)
	x.Imports[0].Args[0] = zero
	wantEdge(t, "the Call", m, x, "1.0.0.3 edge")
	x.Imports[0].Args[0] = fact.Of(1)
	wantEdge(t, "the Store behind it", m, x, "1.0.0.4 edge")
	x.Cells[0] = fact.Any()
	x.Funcs[0].Blocks[1].State.Vals[0] = zero
	x.Funcs[0].Blocks[0].Live, x.Funcs[0].Blocks[1].Live = nil, nil
	wantEdge(t, "the Edge to Else", m, x, "1.0.0.6 edge")
	x.Funcs[0].Blocks[1].State.Vals[0] = fact.Of(1)
	wantEdge(t, "all of block 0, but nothing counts", m, x, "1.0.1 edge")
	x.Funcs[0].Blocks[1].Live = set{0}
	// Both registers get their numbers in block 0.
	wantEdge(t, "nothing counts ahead of block 0", m, x, "ok")
	x.Funcs[0].Sum.Result = zero
	x.Funcs[0].Blocks[1].Live = nil
	wantEdge(t, "what is returned", m, x, "1.0.1.0 edge")
	// What is returned there is 0, so that behind Div by it nobody comes: neither the Edges nor block 1 need follow.
	x.Imports[0].Result, x.Funcs[0].Sum.Result, x.Funcs[0].Blocks[1] = zero, fact.Value{}, table.Block{Live: set{0}}
	x.Funcs[0].Sum.Returns = false
	wantEdge(t, "behind Div by 0 nobody comes", m, x, "ok")
	x.Cells[0] = fact.Of(1)
	wantEdge(t, "a cell's beginning", m, x, "0.0 edge")
	m.Cells[0] = 1
	wantEdge(t, "what is stored ahead of Div by 0", m, x, "1.0.0.4 edge")
}

// P19.1: a Branch to one block, and one that goes one way alone.
func TestBranches(t *testing.T) {
	m := ir.Module{Funcs: []ir.Func{fn("main", 0, 1, block(branch(0, 1, 1)), block(back(0)), block(back(0)))}}
	x := table.Any(m)
	x.Funcs[0].Blocks[0].State = having(from(0, 3), set{0})
	x.Funcs[0].Blocks[1].State = having(from(1, 3), set{0})
	wantEdge(t, "both go to block 1, with 0, too", m, x, "1.0.0.0 edge")
	x.Funcs[0].Blocks[1].State = having(from(0, 3), set{0})
	wantEdge(t, "both go to block 1", m, x, "ok")
	m.Funcs[0].Blocks[0].End = branch(0, 1, 2)
	x.Funcs[0].Blocks[1].State = having(from(1, 3), set{0})
	x.Funcs[0].Blocks[2].State = having(fact.Of(0), set{0})
	wantEdge(t, "two ways", m, x, "ok")
	x.Funcs[0].Blocks[2].State = state.None()
	wantEdge(t, "nobody comes to Else", m, x, "1.0.0.0 edge")
	x.Funcs[0].Blocks[0].State = having(fact.Of(0), set{0})
	x.Funcs[0].Blocks[1].State, x.Funcs[0].Blocks[2].State = state.None(), having(fact.Of(0), set{0})
	wantEdge(t, "0 goes to Else alone", m, x, "ok")
	x.Funcs[0].Blocks[1].State, x.Funcs[0].Blocks[2].State = having(fact.Of(0), set{0}), state.None()
	wantEdge(t, "0 doesn't go to To", m, x, "1.0.0.0 edge")
}

// P19.1: sites and numbers count each for itself; a block may be told to have more than comes there.
func TestMoreMayBeTold(t *testing.T) {
	for about, change := range map[string]func(x *table.Table){
		"a cell": func(x *table.Table) { x.Cells[0] = fact.Any() },
		"sites":  func(x *table.Table) { x.Funcs[0].Blocks[2].State.Sites[1] = set{0, 3, 7} },
		"sites of a loop": func(x *table.Table) {
			x.Funcs[0].Blocks[1].State.Sites[1] = set{0, 1, 3}
			x.Funcs[0].Blocks[2].State.Sites[1] = set{3}
		},
		"numbers":             func(x *table.Table) { x.Funcs[0].Blocks[2].State.Vals[1] = from(-1, 1) },
		"numbers that go on":  func(x *table.Table) { x.Funcs[0].Blocks[0].State.Vals[0] = fact.Any() },
		"registers":           func(x *table.Table) { x.Funcs[1].Blocks[0].Live = set{0, 1} },
		"main's Result":       func(x *table.Table) { x.Funcs[0].Sum.Result = fact.Any() },
		"an import's Args":    func(x *table.Table) { x.Imports[0].Args[0] = from(0, 3) },
		"an import is Called": func(x *table.Table) { x.Imports[1].Called = true },
	} {
		x := following()
		change(&x)
		wantEdge(t, about, calling(), x, "ok")
	}
	// What is told ahead of a block goes on from there, whether it comes about or not.
	x := following()
	x.Funcs[0].Blocks[2].State.Vals[0] = from(3, 4)
	wantEdge(t, "more is returned", calling(), x, "1.0.2.1 edge")
	x = following()
	x.Funcs[1].Sum.Args[1] = from(0, 3)
	wantEdge(t, "more is handed in", calling(), x, "1.1 edge")
}

// P19.4: Any follows.
func TestAnyFollows(t *testing.T) {
	loop := ir.Module{Funcs: []ir.Func{fn("main", 0, 1, block(jump(0)))}}
	for _, m := range []ir.Module{{}, calling(), loop, {Cells: []int64{1}}, {Imports: []ir.Import{{Name: "g", Arity: 4}}}} {
		wantEdge(t, fmt.Sprint(m), m, table.Any(m), "ok")
	}
	m := loop
	m.Funcs[0].Regs = 9
	wantEdge(t, "Any of a module that isn't well-formed", m, table.Any(m), "0 register")
}
