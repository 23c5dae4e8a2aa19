package merge_test

import (
	"fmt"
	"math/rand"
	"testing"

	"averment/edges"
	"averment/fact"
	"averment/fault"
	"averment/flow"
	"averment/ir"
	"averment/link"
	"averment/merge"
	"averment/state"
	"averment/table"
)

type set = []int

func fn(name string, arity, regs int, blocks ...ir.Block) ir.Func {
	return ir.Func{Name: name, Arity: arity, Regs: regs, Blocks: blocks}
}

func block(end ir.End, insns ...ir.Insn) ir.Block { return ir.Block{Insns: insns, End: end} }

func jump(to int) ir.End { return ir.End{Op: ir.Jump, To: to} }

func branch(a, to, other int) ir.End { return ir.End{Op: ir.Branch, A: a, To: to, Else: other} }

func back(a int) ir.End { return ir.End{Op: ir.Return, A: a} }

func number(d int, n int64) ir.Insn { return ir.Insn{Op: ir.Const, D: d, N: n} }

func input(d int) ir.Insn { return ir.Insn{Op: ir.Input, D: d} }

func output(a int) ir.Insn { return ir.Insn{Op: ir.Output, A: a} }

func load(d, cell int) ir.Insn { return ir.Insn{Op: ir.Load, D: d, B: cell} }

func store(a, cell int) ir.Insn { return ir.Insn{Op: ir.Store, A: a, B: cell} }

func call(d, f int, args ...int) ir.Insn { return ir.Insn{Op: ir.Call, D: d, B: f, Args: args} }

func two(op, d, a, b int) ir.Insn { return ir.Insn{Op: op, D: d, A: a, B: b} }

// having is Reached, with Values and a set of sites for each register, by turns.
func having(parts ...any) state.State {
	s := state.State{Reached: true}
	for i := 0; i < len(parts); i += 2 {
		s.Vals = append(s.Vals, parts[i].(fact.Value))
		s.Sites = append(s.Sites, parts[i+1].([]int))
	}
	return s
}

// told is what is told of a function.
func told(s flow.Sum, blocks ...table.Block) table.Func { return table.Func{Sum: s, Blocks: blocks} }

// counting: count tells its import put what comes in, and calls step (the other one's) till that is 0; its sites: 0 to 2 registers, 3 Input, 4 Call, 5 Call.
func counting() (ir.Module, table.Table) {
	any, zero, small := fact.Any(), fact.Of(0), from(-9, 9)
	m := ir.Module{Cells: []int64{4}, Funcs: []ir.Func{
		fn("count", 1, 3,
			block(jump(1), input(1)),
			block(branch(1, 1, 2), call(2, 1, 1), call(1, 2, 1, 0)),
			block(back(0))),
	}, Imports: []ir.Import{{Name: "put", Arity: 1}, {Name: "step", Arity: 2}}}
	return m, table.Table{
		Cells: []fact.Value{fact.Of(4)},
		Funcs: []table.Func{told(returning(called(small), small),
			table.Block{State: having(small, set{0}, zero, set{1}, zero, set{2}), Live: set{0}},
			table.Block{State: having(small, set{0}, any, set{3, 5}, any, set{2, 4}), Live: set{0, 1}},
			table.Block{State: having(small, set{0}, zero, set{5}, from(0, 7), set{4}), Live: set{0}},
		)},
		Imports: []flow.Sum{returning(called(any), from(0, 7)), returning(called(any, small), any)},
	}
}

// stepping: step is called by itself with the same numbers, and stores; aside isn't; begin calls count (the other one's) with its cell; put, which both import, is called with what step got. Its sites: step's 0, 1, Load 2, Call 3; begin's 4, Load 5, Call 6; aside's 7.
func stepping() (ir.Module, table.Table) {
	any, small, stored := fact.Any(), from(-9, 9), from(-99, 99)
	m := ir.Module{Cells: []int64{5, -1}, Funcs: []ir.Func{
		fn("step", 2, 2, block(back(0), load(0, 0), store(1, 1), call(1, 4, 0))),
		fn("begin", 0, 1, block(back(0), load(0, 0), call(0, 3, 0))),
		fn("aside", 0, 1, block(jump(0))),
	}, Imports: []ir.Import{{Name: "count", Arity: 1}, {Name: "put", Arity: 1}}}
	return m, table.Table{
		Cells: []fact.Value{fact.Of(5), stored},
		Funcs: []table.Func{
			told(returning(called(any, small), from(5, 6)), table.Block{State: having(any, set{0}, small, set{1}), Live: set{0, 1}}),
			told(returning(called(), any), table.Block{State: having(any, set{4, 6}), Live: nil}),
			told(flow.Sum{}, table.Block{State: state.None(), Live: set{0}}),
		},
		Imports: []flow.Sum{returning(called(small), stored), returning(called(small), from(4, 9))},
	}
}

// both is what counting and stepping come to.
func both() table.Table {
	any, zero, small, stored := fact.Any(), fact.Of(0), from(-9, 9), from(-99, 99)
	return table.Table{
		Cells: []fact.Value{fact.Of(4), fact.Of(5), stored},
		Funcs: []table.Func{
			told(returning(called(small), small),
				table.Block{State: having(small, set{0}, zero, set{1}, zero, set{2}), Live: set{0}},
				table.Block{State: having(small, set{0}, any, set{3, 5}, any, set{2, 4}), Live: set{0, 1}},
				table.Block{State: having(small, set{0}, zero, set{5}, from(0, 7), set{4}), Live: set{0}}),
			told(returning(called(any, small), from(5, 6)), table.Block{State: having(any, set{6}, small, set{7}), Live: set{0, 1}}),
			told(returning(called(), any), table.Block{State: having(any, set{10, 12})}),
			told(flow.Sum{}, table.Block{Live: set{0}}),
		},
		Imports: []flow.Sum{returning(called(any), from(4, 7))},
	}
}

// otherBoth is what they come to the other way round.
func otherBoth() table.Table {
	any, zero, small, stored := fact.Any(), fact.Of(0), from(-9, 9), from(-99, 99)
	return table.Table{
		Cells: []fact.Value{fact.Of(5), stored, fact.Of(4)},
		Funcs: []table.Func{
			told(returning(called(any, small), from(5, 6)), table.Block{State: having(any, set{0}, small, set{1}), Live: set{0, 1}}),
			told(returning(called(), any), table.Block{State: having(any, set{4, 6})}),
			told(flow.Sum{}, table.Block{Live: set{0}}),
			told(returning(called(small), small),
				table.Block{State: having(small, set{8}, zero, set{9}, zero, set{10}), Live: set{0}},
				table.Block{State: having(small, set{8}, any, set{11, 13}, any, set{10, 12}), Live: set{0, 1}},
				table.Block{State: having(small, set{8}, zero, set{13}, from(0, 7), set{12}), Live: set{0}}),
		},
		Imports: []flow.Sum{returning(called(any), from(4, 7))},
	}
}

// answer is all that Join tells: E is its error's text.
type answer struct {
	M ir.Module
	X table.Table
	E string
}

func join(a ir.Module, s table.Table, b ir.Module, t table.Table) answer {
	m, x, e := merge.Join(a, s, b, t)
	return answer{m, x, fault.Text(e)}
}

// wantJoin holds all that Join tells against a Table of link.Link's module; nil and empty lists are one.
func wantJoin(t *testing.T, about string, a ir.Module, s table.Table, b ir.Module, u, want table.Table) {
	t.Helper()
	m, e := link.Link(a, b)
	if e != nil {
		t.Fatal(about, fault.Text(e))
	}
	if got := join(a, s, b, u); fmt.Sprint(got) != fmt.Sprint(answer{m, want, "ok"}) {
		t.Errorf("%s: got %v, want %v", about, got, answer{m, want, "ok"})
	}
	if e := table.Check(m, want, false); e != nil {
		t.Errorf("%s: not in normal form: %s", about, fault.Text(e))
	}
}

// wantError: Join tells that error, and nothing else.
func wantError(t *testing.T, about string, a ir.Module, s table.Table, b ir.Module, u table.Table, want string) {
	t.Helper()
	if got := join(a, s, b, u); fmt.Sprint(got) != fmt.Sprint(answer{E: want}) {
		t.Errorf("%s: got %v, want %s", about, got, want)
	}
}

// P23.1: cells, functions with their sites, imports of what comes about, on either side.
func TestJoin(t *testing.T) {
	a, s := counting()
	b, u := stepping()
	wantJoin(t, "counting, stepping", a, s, b, u, both())
	wantJoin(t, "stepping, counting", b, u, a, s, otherBoth())
	none := ir.Module{}
	for _, c := range []struct {
		about string
		m     ir.Module
		x     table.Table
	}{
		{"counting", a, s}, {"stepping", b, u}, {"nothing", none, table.Table{}}, {"both", linked(t, a, b), both()},
	} {
		wantJoin(t, c.about+", nothing", c.m, c.x, none, table.Table{}, c.x)
		wantJoin(t, "nothing, "+c.about, none, table.Table{}, c.m, c.x, c.x)
		lists := table.Table{Cells: []fact.Value{}, Funcs: []table.Func{}, Imports: []flow.Sum{}}
		wantJoin(t, c.about+", empty lists", c.m, c.x, none, lists, c.x)
	}
}

// P23.1: Tables that don't follow are put together, too; sites of other functions are shifted likewise.
func TestJoinOfWhateverIsTold(t *testing.T) {
	a := ir.Module{Cells: []int64{1}, Funcs: []ir.Func{fn("f", 1, 2, block(back(0), input(1)))}}
	b := ir.Module{Cells: []int64{2}, Funcs: []ir.Func{fn("g", 1, 1, block(back(0), input(0))), fn("h", 0, 1, block(jump(0)))}}
	s, u := table.Any(a), table.Any(b)
	want := table.Any(linked(t, a, b))
	for f := range want.Funcs {
		for r := range want.Funcs[f].Blocks[0].State.Sites {
			want.Funcs[f].Blocks[0].State.Sites[r] = set{3, 4, 5}
			if f == 0 {
				want.Funcs[f].Blocks[0].State.Sites[r] = set{0, 1, 2}
			}
		}
	}
	wantJoin(t, "any, any", a, s, b, u, want)
	wantJoin(t, "none, none", a, table.None(a), b, table.None(b), table.None(linked(t, a, b)))
	s.Cells[0], u.Cells[0] = fact.Of(8), fact.Of(9)
	want.Cells = []fact.Value{fact.Of(8), fact.Of(9)}
	wantJoin(t, "cells that begin otherwise", a, s, b, u, want)
}

// P23.1: imports: one has it, the other one has it, both have it, as many as there are, by their names.
func TestImportsOfBoth(t *testing.T) {
	of := func(names ...string) ir.Module {
		var m ir.Module
		for _, name := range names {
			m.Imports = append(m.Imports, ir.Import{Name: name, Arity: 1})
		}
		return m
	}
	sum := func(n int64) flow.Sum { return returning(called(from(n, n+1)), from(0, n)) }
	two := func(n, k int64) flow.Sum { return returning(called(from(min(n, k), max(n, k)+1)), from(0, min(n, k))) }
	wantJoin(t, "by turns", of("a", "c", "e"), table.Table{Imports: []flow.Sum{sum(1), sum(3), sum(5)}},
		of("b", "d"), table.Table{Imports: []flow.Sum{sum(2), sum(4)}},
		table.Table{Imports: []flow.Sum{sum(1), sum(2), sum(3), sum(4), sum(5)}})
	wantJoin(t, "the second's are ahead", of("x", "y"), table.Table{Imports: []flow.Sum{sum(1), sum(2)}},
		of("a", "b"), table.Table{Imports: []flow.Sum{sum(3), sum(4)}},
		table.Table{Imports: []flow.Sum{sum(3), sum(4), sum(1), sum(2)}})
	wantJoin(t, "some of both", of("a", "m", "z"), table.Table{Imports: []flow.Sum{sum(1), sum(2), sum(3)}},
		of("b", "m", "y", "z"), table.Table{Imports: []flow.Sum{sum(4), sum(5), sum(6), sum(7)}},
		table.Table{Imports: []flow.Sum{sum(1), sum(4), two(2, 5), sum(6), two(3, 7)}})
	wantJoin(t, "neither calls it", of("a"), table.Table{Imports: []flow.Sum{idle}}, of("a", "b"), table.Table{Imports: []flow.Sum{idle, idle}},
		table.Table{Imports: []flow.Sum{idle, idle}})
	wantJoin(t, "the second calls it", of("a"), table.Table{Imports: []flow.Sum{returning(idle, fact.Of(1))}},
		of("a"), table.Table{Imports: []flow.Sum{returning(called(fact.Of(2)), fact.Of(3))}},
		table.Table{Imports: []flow.Sum{called(fact.Of(2))}})
	// An import that is the other one's function is none, but what is told of it may be more than of the function.
	callee := ir.Module{Funcs: []ir.Func{fn("m", 1, 1, block(back(0)))}}
	x := table.Any(callee)
	wantJoin(t, "one goes away", of("a", "m", "z"), table.Table{Imports: []flow.Sum{sum(1), returning(called(fact.Of(0)), fact.Any()), sum(3)}},
		callee, x, table.Table{Funcs: x.Funcs, Imports: []flow.Sum{sum(1), sum(3)}})
	wantJoin(t, "one of the second goes away", callee, x, of("a", "m", "z"), table.Table{Imports: []flow.Sum{sum(1), idle, sum(3)}},
		table.Table{Funcs: x.Funcs, Imports: []flow.Sum{sum(1), sum(3)}})
}

// pair is two modules with what is told of them. a: main 0, f 1, imports a 2, g 3, h 4; b: g 0, h 1, imports a 2, f 3.
type pair struct {
	a ir.Module
	s table.Table
	b ir.Module
	t table.Table
}

func rightPair() pair {
	any := fact.Any()
	idler := func(name string, arity int) ir.Func { return fn(name, arity, 2, block(back(0))) }
	x := pair{
		a: ir.Module{Cells: []int64{1}, Funcs: []ir.Func{idler("main", 0), idler("f", 1)}, Imports: []ir.Import{{Name: "a", Arity: 1}, {Name: "g", Arity: 2}, {Name: "h"}}},
		b: ir.Module{Cells: []int64{2}, Funcs: []ir.Func{idler("g", 2), idler("h", 0)}, Imports: []ir.Import{{Name: "a", Arity: 1}, {Name: "f", Arity: 1}}},
	}
	x.s, x.t = table.Any(x.a), table.Any(x.b)
	x.s.Imports = []flow.Sum{idle, returning(called(any, any), any), returning(called(), any)}
	x.t.Imports = []flow.Sum{idle, returning(called(any), any)}
	return x
}

// spoiler makes something of a pair wrong.
type spoiler struct {
	about, want string
	spoil       func(p *pair)
}

// spoilers are what may be wrong with a pair, in the order in which it is told.
func spoilers() []spoiler {
	few := from(0, 9)
	return []spoiler{
		{"too many cells in a", "0 size", func(p *pair) { p.a.Cells = make([]int64, 17) }},
		{"an End in a", "0.1.0.0 register", func(p *pair) { p.a.Funcs[1].Blocks[0].End.A = 2 }},
		{"no cell is told in a", "0 shape", func(p *pair) { p.s.Cells = nil }},
		{"a cell in a", "0.0.0 fact", func(p *pair) { p.s.Cells[0].Sign = 0 }},
		{"a Sum in a", "0.1.0 shape", func(p *pair) { p.s.Funcs[0].Sum.Args = make([]fact.Value, 1) }},
		{"a block in a", "0.1.1.0 fact", func(p *pair) { p.s.Funcs[1].Blocks[0].Live = set{2} }},
		{"an import in a", "0.2.1 fact", func(p *pair) { p.s.Imports[1].Result = fact.Value{} }},
		{"no name in b", "1.0 name", func(p *pair) { p.b.Funcs[0].Name = "G" }},
		{"no import is told in b", "1 shape", func(p *pair) { p.t.Imports = nil }},
		{"a cell in b", "1.0.0 fact", func(p *pair) { p.t.Cells[0].Parity = 4 }},
		{"sites in b", "1.1.0.0 fact", func(p *pair) { p.t.Funcs[0].Blocks[0].State.Sites[0] = set{4} }},
		{"a State in b", "1.1.1.0 shape", func(p *pair) { p.t.Funcs[1].Blocks[0].State.Vals = make([]fact.Value, 3) }},
		{"arguments of what isn't Called in b", "1.2.0 shape", func(p *pair) { p.t.Imports[0].Args = anyValues(1) }},
		{"an import in b", "1.2.1 fact", func(p *pair) { p.t.Imports[1].Result.Sign = 8 }},
		{"main in both", "1 twice", func(p *pair) { p.b.Funcs[1].Name = "main" }},
		{"an import of a", "0.2 clash", func(p *pair) { p.a.Imports[0].Arity = 2 }},
		{"an import of a, a function of b", "0.4 clash", func(p *pair) { p.a.Imports[2].Arity, p.s.Imports[2].Args = 1, []fact.Value{fact.Any()} }},
		{"an import of b", "1.3 clash", func(p *pair) { p.b.Imports[1].Arity, p.t.Imports[1].Args = 0, nil }},
		{"too many cells", "size", func(p *pair) { p.b.Cells, p.t.Cells = make([]int64, 16), anyValues(16) }},
		{"the first import of a", "0.3 implied", func(p *pair) { p.t.Funcs[0].Sum.Args[1] = few }},
		{"the second import of a", "0.4 implied", func(p *pair) { p.s.Imports[2].Result = few }},
		{"an import of b", "1.3 implied", func(p *pair) { p.t.Imports[1].Returns, p.t.Imports[1].Result = false, fact.Value{} }},
	}
}

func anyValues(n int) []fact.Value {
	var all []fact.Value
	for range n {
		all = append(all, fact.Any())
	}
	return all
}

// P23.1: each error alone, and beside each later one: the first is told, at its place.
func TestErrors(t *testing.T) {
	p := rightPair()
	want := table.Any(linked(t, p.a, p.b))
	for f, told := range want.Funcs {
		first := f / 2 * 4
		for r := range told.Blocks[0].State.Sites {
			told.Blocks[0].State.Sites[r] = set{first, first + 1, first + 2, first + 3}
		}
	}
	want.Imports = []flow.Sum{idle}
	wantJoin(t, "none", p.a, p.s, p.b, p.t, want)
	all := spoilers()
	for i, first := range all {
		p := rightPair()
		first.spoil(&p)
		wantError(t, first.about, p.a, p.s, p.b, p.t, first.want)
		for _, later := range all[i+1:] {
			p := rightPair()
			later.spoil(&p)
			first.spoil(&p)
			wantError(t, first.about+" and "+later.about, p.a, p.s, p.b, p.t, first.want)
		}
	}
}

// P23.1: ErrImply, at the import's number in its module: import by import of the first one, then of the second one; what isn't called is no matter.
func TestImply(t *testing.T) {
	few, any := from(0, 9), fact.Any()
	for _, c := range []struct {
		about, want, other string
		change             func(p *pair)
	}{
		{"nothing is changed", "ok", "ok", func(p *pair) {}},
		{"g isn't Called", "0.3 implied", "1.3 implied", func(p *pair) { p.t.Funcs[0].Sum = returning(idle, any) }},
		{"g and h aren't Called", "0.3 implied", "1.3 implied", func(p *pair) { p.t.Funcs[0].Sum, p.t.Funcs[1].Sum = idle, idle }},
		{"h isn't Called", "0.4 implied", "1.4 implied", func(p *pair) { p.t.Funcs[1].Sum = idle }},
		{"f isn't Called", "1.3 implied", "0.3 implied", func(p *pair) { p.s.Funcs[1].Sum = idle }},
		{"f and h aren't Called", "0.4 implied", "0.3 implied", func(p *pair) { p.s.Funcs[1].Sum, p.t.Funcs[1].Sum = idle, idle }},
		{"nobody calls any of them", "ok", "ok", func(p *pair) {
			p.t.Funcs[0].Sum, p.t.Funcs[1].Sum, p.s.Funcs[1].Sum = idle, idle, idle
			p.s.Imports, p.t.Imports = []flow.Sum{idle, idle, idle}, []flow.Sum{idle, idle}
		}},
		{"g takes less", "0.3 implied", "1.3 implied", func(p *pair) { p.t.Funcs[0].Sum.Args[0] = few }},
		{"g takes just as much", "ok", "ok", func(p *pair) {
			p.t.Funcs[0].Sum.Args[0], p.s.Imports[1].Args[0] = few, few
		}},
		{"f takes less than it gets, by one", "1.3 implied", "0.3 implied", func(p *pair) {
			p.s.Funcs[1].Sum.Args[0], p.t.Imports[1].Args[0] = few, from(0, 10)
		}},
		{"h returns more than is told", "0.4 implied", "1.4 implied", func(p *pair) {
			p.t.Funcs[1].Sum.Result, p.s.Imports[2].Result = from(-1, 9), few
		}},
		{"h returns less than is told", "ok", "ok", func(p *pair) {
			p.t.Funcs[1].Sum.Result, p.s.Imports[2].Result = from(1, 8), few
		}},
		{"h returns nothing", "ok", "ok", func(p *pair) { p.t.Funcs[1].Sum = called() }},
		{"h returns, but isn't told to", "0.4 implied", "1.4 implied", func(p *pair) { p.s.Imports[2] = called() }},
		{"h isn't told to return, and doesn't", "ok", "ok", func(p *pair) { p.s.Imports[2], p.t.Funcs[1].Sum = called(), called() }},
		{"an import of both is no matter", "ok", "ok", func(p *pair) { p.s.Imports[0], p.t.Imports[0] = called(few), returning(called(any), few) }},
	} {
		p := rightPair()
		c.change(&p)
		if got := join(p.a, p.s, p.b, p.t).E; got != c.want {
			t.Errorf("%s: got %s", c.about, got)
		}
		if got := join(p.b, p.t, p.a, p.s).E; got != c.other {
			t.Errorf("%s, the other way round: got %s", c.about, got)
		}
	}
}

// modelled is what two modules and their Tables come to, as the chapter says it; false: an error. The Tables are in normal form.
func modelled(a ir.Module, s table.Table, b ir.Module, u table.Table) (answer, bool) {
	m, e := link.Link(a, b)
	if e != nil {
		return answer{E: fault.Text(e)}, false
	}
	for side, one := range []struct {
		m, other   ir.Module
		x, another table.Table
	}{{a, b, s, u}, {b, a, u, s}} {
		for i, im := range one.m.Imports {
			for f, fn := range one.other.Funcs {
				if fn.Name == im.Name && !modelImplied(one.x.Imports[i], one.another.Funcs[f].Sum) {
					return answer{E: fmt.Sprint(side, ".", len(one.m.Funcs)+i, " implied")}, false
				}
			}
		}
	}
	return answer{m, modelTable(m, a, s, b, u), "ok"}, true
}

// modelTable is what is told of m, which a and b come to, whether that is implied or not.
func modelTable(m, a ir.Module, s table.Table, b ir.Module, u table.Table) table.Table {
	sums := make(map[string][]flow.Sum)
	for i, im := range a.Imports {
		sums[im.Name] = append(sums[im.Name], s.Imports[i])
	}
	for i, im := range b.Imports {
		sums[im.Name] = append(sums[im.Name], u.Imports[i])
	}
	var x table.Table
	x.Cells = append(append(x.Cells, s.Cells...), u.Cells...)
	for _, f := range s.Funcs {
		x.Funcs = append(x.Funcs, modelShifted(f, 0))
	}
	for _, f := range u.Funcs {
		x.Funcs = append(x.Funcs, modelShifted(f, ir.Sites(a)))
	}
	for _, im := range m.Imports {
		both := sums[im.Name]
		if len(both) == 2 {
			both[0] = modelSum(both[0], both[1])
		}
		x.Imports = append(x.Imports, both[0])
	}
	return x
}

func modelShifted(f table.Func, sites int) table.Func {
	other := table.Func{Sum: f.Sum}
	for _, b := range f.Blocks {
		shifted := table.Block{Live: b.Live, State: state.State{Reached: b.State.Reached, Vals: b.State.Vals}}
		for _, set := range b.State.Sites {
			var fresh []int
			for _, site := range set {
				fresh = append(fresh, site+sites)
			}
			shifted.State.Sites = append(shifted.State.Sites, fresh)
		}
		other.Blocks = append(other.Blocks, shifted)
	}
	return other
}

func modelSum(a, b flow.Sum) flow.Sum {
	s := a
	if !a.Called {
		s = b
	}
	if a.Called && b.Called {
		s.Args = nil
		for i := range a.Args {
			s.Args = append(s.Args, fact.Join(b.Args[i], a.Args[i]))
		}
	}
	s.Returns, s.Result = false, fact.Value{}
	if v, ok := fact.Meet(b.Result, a.Result); ok && a.Returns && b.Returns {
		s.Returns, s.Result = true, v
	}
	return s
}

// P23.1: modules and Tables by chance: what comes about, or the error; of what follows what comes about follows.
func TestModel(t *testing.T) {
	kinds := make(map[string]int)
	some(t, 10, 1500, 2, true, func(_ *rand.Rand, all []ir.Module, told []table.Table) {
		got := join(all[0], told[0], all[1], told[1])
		want, ok := modelled(all[0], told[0], all[1], told[1])
		if fmt.Sprint(got) != fmt.Sprint(want) {
			t.Fatal(all, told, "got", got, "want", want)
		}
		if !ok {
			kinds[fmt.Sprint(got.E[:1], " implied")]++
			return
		}
		kinds["ok"]++
		if e := edges.Check(got.M, got.X); e != nil {
			t.Fatal("it doesn't follow", all, told, got, fault.Text(e))
		}
	})
	if kinds["ok"] < 500 || kinds["0 implied"] < 100 || kinds["1 implied"] < 100 || len(kinds) != 3 {
		t.Error("too few", kinds)
	}
}

// P23.1, P23.2: a Table of what two modules come to, taken apart and put together again, is as it was.
func TestTakenApart(t *testing.T) {
	source := rand.New(rand.NewSource(11))
	imports := 0
	for range 600 {
		all := someModules(t, source, 2, source.Intn(2) == 0)
		m := linked(t, all...)
		x := someSolved(t, source, m)
		parts := apiece(t, all, x)
		imports += len(all[0].Imports) + len(all[1].Imports)
		for i := range all {
			if e := edges.Check(all[i], parts[i]); e != nil {
				t.Fatal("it doesn't follow", fault.Text(e), all[i], parts[i])
			}
		}
		if got := join(all[0], parts[0], all[1], parts[1]); got.E != "ok" || !ir.Equal(got.M, m) || !table.Equal(got.X, x) {
			t.Fatal(all, x, "got", got)
		}
	}
	if imports < 1500 {
		t.Error("too few", imports)
	}
}
