package solve

import (
	"fmt"
	"math"
	"testing"

	"averment/api"
	"averment/edges"
	"averment/fact"
	"averment/fault"
	"averment/flow"
	"averment/ir"
	"averment/known"
	"averment/parity"
	"averment/sign"
	"averment/span"
	"averment/state"
	"averment/table"
)

type set = []int

func fn(name string, arity, regs int, blocks ...ir.Block) ir.Func {
	return ir.Func{Name: name, Arity: arity, Regs: regs, Blocks: blocks}
}

func block(end ir.End, insns ...ir.Insn) ir.Block { return ir.Block{Insns: insns, End: end} }

func jump(to int) ir.End { return ir.End{Op: ir.Jump, To: to} }

func branch(a, to, other int) ir.End { return ir.End{Op: ir.Branch, A: a, To: to, Else: other} }

func back(a int) ir.End { return ir.End{Op: ir.Return, A: a} }

func number(d int, n int64) ir.Insn { return ir.Insn{Op: ir.Const, D: d, N: n} }

func input(d int) ir.Insn { return ir.Insn{Op: ir.Input, D: d} }

func output(a int) ir.Insn { return ir.Insn{Op: ir.Output, A: a} }

func load(d, cell int) ir.Insn { return ir.Insn{Op: ir.Load, D: d, B: cell} }

func store(a, cell int) ir.Insn { return ir.Insn{Op: ir.Store, A: a, B: cell} }

func call(d, f int, args ...int) ir.Insn { return ir.Insn{Op: ir.Call, D: d, B: f, Args: args} }

func two(op, d, a, b int) ir.Insn { return ir.Insn{Op: op, D: d, A: a, B: b} }

// value is a Value whose number isn't known.
func value(signs int, lo, hi int64, p int) fact.Value {
	return fact.Value{Sign: signs, Known: known.Any(), Span: span.Span{Lo: lo, Hi: hi}, Parity: p}
}

const (
	least    = span.Least
	greatest = span.Greatest
	nonneg   = sign.Zero | sign.Pos
	both     = parity.Even | parity.Odd
)

// having is Reached, with Values and a set of sites for each register, by turns.
func having(parts ...any) state.State {
	s := state.State{Reached: true}
	for i := 0; i < len(parts); i += 2 {
		s.Vals = append(s.Vals, parts[i].(fact.Value))
		s.Sites = append(s.Sites, parts[i+1].([]int))
	}
	return s
}

// called is the Sum of a function that is, with these arguments, and returns nothing.
func called(args ...fact.Value) flow.Sum { return flow.Sum{Called: true, Args: args} }

// returning is s, but it Returns.
func returning(s flow.Sum, result fact.Value) flow.Sum {
	s.Returns, s.Result = true, result
	return s
}

// answer is all that Solve tells.
type answer struct {
	X     table.Table
	Steps int
	E     string
}

func solve(m ir.Module, roots []int, budget int) answer {
	x, steps, e := Solve(m, roots, budget)
	return answer{x, steps, fault.Text(e)}
}

// wantError: Solve tells that error, and nothing else.
func wantError(t *testing.T, about string, m ir.Module, roots []int, budget int, want string) {
	t.Helper()
	got := solve(m, roots, budget)
	if fmt.Sprint(got) != fmt.Sprint(answer{E: want}) || got.X.Cells != nil || got.X.Funcs != nil || got.X.Imports != nil {
		t.Errorf("%s: got %v, want %s", about, got, want)
	}
}

// wantRounds: Solve finds something in so many rounds, and follows; with a step less it doesn't.
func wantRounds(t *testing.T, about string, m ir.Module, roots []int, rounds int) table.Table {
	t.Helper()
	steps := 0
	for _, f := range m.Funcs {
		steps += rounds * len(f.Blocks)
	}
	got := solve(m, roots, Bound(m))
	if got.E != "ok" || got.Steps != steps {
		t.Errorf("%s: got %s in %d steps, want %d", about, got.E, got.Steps, steps)
	}
	if exact := solve(m, roots, steps); fmt.Sprint(exact) != fmt.Sprint(got) {
		t.Errorf("%s: with just so many steps %v, with more %v", about, exact, got)
	}
	wantError(t, about+", a step less", m, roots, steps-1, "budget")
	if e := edges.Check(m, got.X); e != nil {
		t.Errorf("%s: it doesn't follow: %s", about, fault.Text(e))
	}
	return got.X
}

// wantTable holds all that Solve tells against a Table; nil and empty lists are one.
func wantTable(t *testing.T, about string, m ir.Module, roots []int, rounds int, want table.Table) {
	t.Helper()
	if x := wantRounds(t, about, m, roots, rounds); fmt.Sprint(x) != fmt.Sprint(want) {
		t.Errorf("%s: got %v, want %v", about, x, want)
	}
}

// wantSums holds what Solve tells of cells, functions and imports against what they should be.
func wantSums(t *testing.T, about string, m ir.Module, roots []int, rounds int, cells []fact.Value, sums ...flow.Sum) table.Table {
	t.Helper()
	x := wantRounds(t, about, m, roots, rounds)
	if e := table.Env(m, x); fmt.Sprint(e.Cells, e.Sums) != fmt.Sprint(cells, sums) {
		t.Errorf("%s: got %v, want %v", about, fmt.Sprint(e.Cells, e.Sums), fmt.Sprint(cells, sums))
	}
	return x
}

// five is a module with main, of one block.
func five() ir.Module {
	return ir.Module{Funcs: []ir.Func{fn("main", 0, 2, block(back(1), number(1, 5)))}}
}

// P21.1: the least modules there are.
func TestLeast(t *testing.T) {
	wantTable(t, "without anything", ir.Module{}, nil, 0, table.Table{})
	if got := solve(ir.Module{}, set{}, 0); fmt.Sprint(got) != fmt.Sprint(answer{E: "ok"}) {
		t.Error("without anything, no steps", got)
	}
	wantTable(t, "cells and imports alone", ir.Module{Cells: []int64{7, -1}, Imports: []ir.Import{{Name: "g", Arity: 2}, {Name: "main"}}}, nil, 0, table.Table{
		Cells:   []fact.Value{fact.Of(7), fact.Of(-1)},
		Imports: []flow.Sum{returning(flow.Sum{}, fact.Any()), returning(flow.Sum{}, fact.Any())},
	})
	wantTable(t, "main, of one block", five(), nil, 2, table.Table{Funcs: []table.Func{{
		Sum:    returning(called(), fact.Of(5)),
		Blocks: []table.Block{{State: having(fact.Of(0), set{0}, fact.Of(0), set{1})}},
	}}})
	m := five()
	m.Funcs[0].Name = "f"
	wantTable(t, "without main", m, nil, 1, table.Table{Funcs: []table.Func{{Blocks: make([]table.Block, 1)}}})
	m = ir.Module{Funcs: []ir.Func{fn("main", 1, 1, block(back(0)))}}
	wantTable(t, "a main that takes something", m, nil, 1, table.Table{Funcs: []table.Func{{Blocks: []table.Block{{Live: set{0}}}}}})
}

// ways is a module: of main blocks 0 and 4 are cut points; one comes to 1, 2 and 5 by one Edge, to 3 by two, to 6 by none. Its sites: main's registers 0 and 1, Input 2, Const 3 and 4, Input 5, Call 6; g's register 7.
func ways() ir.Module {
	return ir.Module{Cells: []int64{1, 0}, Funcs: []ir.Func{
		fn("main", 0, 2,
			block(branch(0, 1, 2), input(0)),
			block(jump(3), number(1, 4)),
			block(jump(3), number(1, 7)),
			block(jump(4), output(1)),
			block(branch(0, 4, 5), input(0), store(1, 1), call(1, 1, 1)),
			block(back(1)),
			block(back(0))),
		fn("g", 1, 1, block(back(0))),
	}}
}

// P21.1: cut points and other blocks, with one Edge, with several, with none; what isn't a cut point becomes the Join, not the Widen.
func TestWays(t *testing.T) {
	zero, nonzero, either := fact.Of(0), fact.Any(), value(sign.Pos, 4, 7, both)
	nonzero.Sign = sign.Neg | sign.Pos
	wantTable(t, "ways", ways(), nil, 3, table.Table{
		Cells: []fact.Value{fact.Of(1), value(nonneg, 0, greatest, both)},
		Funcs: []table.Func{
			{Sum: returning(called(), either), Blocks: []table.Block{
				{State: having(zero, set{0}, zero, set{1})},
				{State: having(nonzero, set{2}, zero, set{1})},
				{State: having(zero, set{2}, zero, set{1})},
				{State: having(fact.Any(), set{2}, either, set{3, 4}), Live: set{1}},
				{State: having(fact.Any(), set{2, 5}, either, set{3, 4, 6}), Live: set{1}},
				{State: having(zero, set{5}, either, set{6}), Live: set{1}},
				{Live: set{0}},
			}},
			{Sum: returning(called(either), either), Blocks: []table.Block{{State: having(either, set{7}), Live: set{0}}}},
		},
	})
}

// counting is a module: main counts from 0 to 10. Its sites: registers 0 to 3, Const 4 and 5, Less 6, Add 7.
func counting() ir.Module {
	return ir.Module{Funcs: []ir.Func{fn("main", 0, 4,
		block(jump(1), number(1, 1), number(2, 10)),
		block(branch(3, 2, 3), two(ir.Less, 3, 0, 2)),
		block(jump(1), two(ir.Add, 0, 0, 1)),
		block(back(0)))}}
}

// P21.1: a loop whose count grows: its Span goes to the ends at once.
func TestCounting(t *testing.T) {
	zero, one, ten := fact.Of(0), fact.Of(1), fact.Of(10)
	wantTable(t, "counting", counting(), nil, 4, table.Table{Funcs: []table.Func{{
		Sum: returning(called(), fact.Any()),
		Blocks: []table.Block{
			{State: having(zero, set{0}, zero, set{1}, zero, set{2}, zero, set{3}), Live: set{0}},
			{State: having(fact.Any(), set{0, 7}, one, set{4}, ten, set{5}, value(nonneg, 0, greatest, both), set{3, 6}), Live: set{0, 1, 2}},
			{State: having(fact.Any(), set{0, 7}, one, set{4}, ten, set{5}, value(sign.Pos, 1, 1, both), set{6}), Live: set{0, 1, 2}},
			{State: having(fact.Any(), set{0, 7}, one, set{4}, ten, set{5}, zero, set{6}), Live: set{0}},
		},
	}}})
}

// P21.1: functions that are called by none, by one ahead, by one behind, by themselves, by several.
func TestCalls(t *testing.T) {
	start := func(f int) ir.Func { return fn("main", 0, 1, block(back(0), call(0, f))) }
	spin := fn("spin", 0, 1, block(jump(0)))
	module := func(funcs ...ir.Func) ir.Module { return ir.Module{Funcs: funcs} }
	// Ahead of it: in the round in which that is called; behind it: in the next one.
	wantSums(t, "by one ahead", module(start(1), spin), nil, 2, nil, called(), called())
	wantSums(t, "by one behind", module(spin, start(0)), nil, 3, nil, called(), called())
	x := wantSums(t, "by none", module(spin, five().Funcs[0]), nil, 2, nil, flow.Sum{}, returning(called(), fact.Of(5)))
	if x.Funcs[0].Blocks[0].State.Reached {
		t.Error("nobody comes to what is called by none")
	}
	seven := fn("g", 0, 1, block(back(0), number(0, 7)))
	result := returning(called(), fact.Of(7))
	wantSums(t, "it returns, behind", module(start(1), seven), nil, 3, nil, result, result)
	wantSums(t, "it returns, ahead", module(seven, start(0)), nil, 3, nil, result, result)
	// Of main, f and g, each of which calls the next one.
	f := fn("f", 0, 1, block(back(0), call(0, 2)))
	wantSums(t, "one calls another", module(start(1), f, seven), nil, 4, nil, result, result, result)
	wantSums(t, "main calls itself", module(start(0)), nil, 2, nil, called())
	// From 3 on down to 0: it returns 0 of any number.
	down := fn("down", 1, 2,
		block(branch(0, 1, 2)),
		block(back(1), number(1, 1), two(ir.Sub, 0, 0, 1), call(1, 1, 0)),
		block(back(0)))
	three := fn("main", 0, 1, block(back(0), number(0, 3), call(0, 1, 0)))
	// The sign of 3 less 1 may be any, as each of the four is reckoned for itself: so 0 comes about in the second round.
	wantSums(t, "by itself", module(three, down), nil, 4, nil, returning(called(), fact.Of(0)), returning(called(fact.Any()), fact.Of(0)))
	// In one round main calls h with 3, f calls it with 1: so from 3 down, but odd.
	h := fn("h", 1, 1, block(jump(0)))
	both := module(fn("main", 0, 1, block(branch(0, 1, 2), input(0)), block(jump(1), call(0, 1)), block(jump(2), number(0, 3), call(0, 2, 0))),
		fn("f", 0, 1, block(jump(0), number(0, 1), call(0, 2, 0))), h)
	odd := value(sign.Pos, least, 3, parity.Odd)
	wantSums(t, "by two", both, nil, 2, nil, called(), called(), called(odd))
}

// P21.1: what is told by then: a call, a store and a result count from the next block on.
func TestByThen(t *testing.T) {
	up := value(nonneg, 0, greatest, both)
	one := ir.Module{Cells: []int64{0}, Funcs: []ir.Func{fn("main", 0, 2, block(back(1), number(0, 5), store(0, 0), load(1, 0)))}}
	wantSums(t, "stored and loaded in one block", one, nil, 3, []fact.Value{up}, returning(called(), up))
	next := ir.Module{Cells: []int64{0}, Funcs: []ir.Func{fn("main", 0, 2, block(jump(1), number(0, 5), store(0, 0)), block(back(1), load(1, 0)))}}
	wantSums(t, "loaded in the next block", next, nil, 2, []fact.Value{up}, returning(called(), up))
	// The block that loads stands ahead of the one that stores, so that it has it in the next round: 0 at first.
	later := ir.Module{Cells: []int64{0}, Funcs: []ir.Func{fn("main", 0, 2, block(jump(2)), block(back(1), load(1, 0)), block(jump(1), number(0, 5), store(0, 0)))}}
	wantSums(t, "loaded in a block ahead", later, nil, 3, []fact.Value{up}, returning(called(), up))
	// f is told by then to return what main's block 1 is the first to use.
	result := ir.Module{Funcs: []ir.Func{
		fn("f", 0, 1, block(back(0), number(0, 2))),
		fn("main", 0, 1, block(branch(0, 1, 2), input(0)), block(jump(2), call(0, 0)), block(back(0), call(0, 0))),
	}}
	wantSums(t, "a result", result, nil, 3, nil, returning(called(), fact.Of(2)), returning(called(), fact.Of(2)))
}

// P21.1: what comes first stays at one end, and what grows goes to the other one.
func TestWhichIsFirst(t *testing.T) {
	down := value(sign.Pos, least, 3, parity.Odd)
	args := ir.Module{Funcs: []ir.Func{fn("main", 0, 2, block(back(1), number(0, 3), call(1, 1, 0), number(0, 1), call(1, 1, 0)))}, Imports: []ir.Import{{Name: "h", Arity: 1}}}
	wantSums(t, "Need by Need", args, nil, 2, nil, returning(called(), fact.Any()), returning(called(down), fact.Any()))
	results := ir.Module{Funcs: []ir.Func{fn("main", 0, 2, block(branch(0, 2, 1), input(0)), block(back(1), number(1, 3)), block(back(1), number(1, 1)))}}
	wantSums(t, "block by block", results, nil, 2, nil, returning(called(), down))
	heads := func(third ir.End) ir.Module {
		return ir.Module{Funcs: []ir.Func{fn("main", 0, 2,
			block(branch(0, 2, 1), input(0)),
			block(jump(3), number(1, 3)),
			block(jump(3), number(1, 1)),
			block(third),
			block(back(1)))}}
	}
	for _, c := range []struct {
		about string
		third ir.End
		want  fact.Value
	}{
		{"a cut point grows", branch(0, 3, 4), down},
		{"another block is joined", branch(0, 4, 4), value(sign.Pos, 1, 3, parity.Odd)},
		{"another block is joined, by a Jump", jump(4), value(sign.Pos, 1, 3, parity.Odd)},
	} {
		x := wantSums(t, c.about, heads(c.third), nil, 2, nil, returning(called(), c.want))
		if v := x.Funcs[0].Blocks[3].State.Vals[1]; v != c.want {
			t.Errorf("%s: got %v, want %v", c.about, v, c.want)
		}
	}
	// Each function has its own cut points.
	loops, goes := heads(branch(0, 3, 4)).Funcs[0], heads(jump(4)).Funcs[0]
	joined := value(sign.Pos, 1, 3, parity.Odd)
	goes.Name = "f"
	wantSums(t, "f's blocks are joined", ir.Module{Funcs: []ir.Func{loops, goes}}, set{1}, 2, nil, returning(called(), down), returning(called(), joined))
	loops.Name, goes.Name = "f", "main"
	wantSums(t, "f's cut point grows", ir.Module{Funcs: []ir.Func{goes, loops}}, set{1}, 2, nil, returning(called(), joined), returning(called(), down))
}

// P21.1: what there is no way to doesn't count; what is ahead of a trap does.
func TestWithoutAWay(t *testing.T) {
	up := value(nonneg, 0, greatest, both)
	spin := fn("spin", 0, 1, block(jump(0)))
	five := []ir.Insn{number(0, 5), store(0, 0)}
	divide := []ir.Insn{two(ir.Div, 1, 0, 1)}
	for _, c := range []struct {
		about  string
		blocks []ir.Block
		rounds int
		cell   fact.Value
		main   flow.Sum
	}{
		{"stored", []ir.Block{block(back(1), five...)}, 2, up, returning(called(), fact.Of(0))},
		{"what it has is stored", []ir.Block{block(back(1), store(1, 0))}, 2, fact.Of(0), returning(called(), fact.Of(0))},
		{"stored twice", []ir.Block{block(back(1), number(0, 5), store(0, 0), number(0, -5), store(0, 0))}, 2, fact.Any(), returning(called(), fact.Of(0))},
		{"in a block to which nobody goes on", []ir.Block{block(back(1)), block(back(1), five...)}, 2, fact.Of(0), returning(called(), fact.Of(0))},
		{"behind a Branch on 0", []ir.Block{block(branch(1, 1, 2)), block(back(1), five...), block(back(0))}, 2, fact.Of(0), returning(called(), fact.Of(0))},
		{"behind a Branch on 1", []ir.Block{block(branch(0, 1, 2), number(0, 1)), block(back(1)), block(back(1), five...)}, 2, fact.Of(0), returning(called(), fact.Of(0))},
		{"behind what never returns", []ir.Block{block(back(1), append([]ir.Insn{call(1, 1)}, five...)...)}, 2, fact.Of(0), called()},
		{"behind a trap", []ir.Block{block(back(1), append(divide, five...)...)}, 2, fact.Of(0), called()},
		{"ahead of a trap", []ir.Block{block(back(1), append(five, divide...)...)}, 2, up, called()},
		{"a cut point comes back to itself alone", []ir.Block{block(jump(2)), block(jump(1), five...), block(back(1))}, 2, fact.Of(0), returning(called(), fact.Of(0))},
	} {
		m := ir.Module{Cells: []int64{0}, Funcs: []ir.Func{fn("main", 0, 2, c.blocks...), spin}}
		other := flow.Sum{}
		if c.about == "behind what never returns" {
			other = called()
		}
		wantSums(t, c.about, m, nil, c.rounds, []fact.Value{c.cell}, c.main, other)
	}
}

// P21.1: imports return anything, whether they are called or not; their arguments grow.
func TestImports(t *testing.T) {
	m := ir.Module{
		Cells:   []int64{3},
		Funcs:   []ir.Func{fn("main", 0, 2, block(branch(1, 0, 1), load(0, 0), call(1, 1, 0, 1), store(1, 0)), block(back(0)))},
		Imports: []ir.Import{{Name: "g", Arity: 2}, {Name: "h", Arity: 1}, {Name: "i"}},
	}
	wantSums(t, "imports", m, nil, 3, []fact.Value{fact.Any()},
		returning(called(), fact.Any()),
		returning(called(fact.Any(), fact.Any()), fact.Any()), returning(flow.Sum{}, fact.Any()), returning(flow.Sum{}, fact.Any()))
	m.Funcs[0].Name = "f"
	none := returning(flow.Sum{}, fact.Any())
	wantSums(t, "who calls isn't called", m, nil, 1, []fact.Value{fact.Of(3)}, flow.Sum{}, none, none, none)
}

// rooted is a module: main calls f with 2; g is called by none.
func rooted() ir.Module {
	return ir.Module{Funcs: []ir.Func{
		fn("main", 0, 1, block(back(0), number(0, 2), call(0, 1, 0))),
		fn("f", 1, 2, block(back(0))),
		fn("g", 2, 2, block(back(1))),
	}, Imports: []ir.Import{{Name: "h"}}}
}

// P21.1: roots are called with any arguments, beside main.
func TestRoots(t *testing.T) {
	m := rooted()
	of := fact.Of(2)
	none := returning(flow.Sum{}, fact.Any())
	plain := []flow.Sum{returning(called(), of), returning(called(of), of), {}, none}
	f := returning(called(fact.Any()), fact.Any())
	g := returning(called(fact.Any(), fact.Any()), fact.Any())
	for _, c := range []struct {
		about  string
		roots  []int
		rounds int
		want   []flow.Sum
	}{
		{"no roots", nil, 3, plain},
		{"no roots, in an empty list", set{}, 3, plain},
		{"main", set{0}, 3, plain},
		{"main twice", set{0, 0}, 3, plain},
		{"what main calls", set{1}, 3, []flow.Sum{returning(called(), fact.Any()), f, {}, none}},
		{"what is called by none", set{2}, 3, []flow.Sum{plain[0], plain[1], g, none}},
		{"all", set{2, 1, 0}, 3, []flow.Sum{returning(called(), fact.Any()), f, g, none}},
		{"all, twice", set{0, 1, 2, 2, 1, 0}, 3, []flow.Sum{returning(called(), fact.Any()), f, g, none}},
	} {
		x := wantSums(t, c.about, m, c.roots, c.rounds, nil, c.want...)
		if c.want[2].Called && x.Funcs[2].Blocks[0].State.Vals[1] != fact.Any() {
			t.Error(c.about, "a root's arguments may be any", x.Funcs[2].Blocks)
		}
	}
	m.Funcs[0].Name = "domain"
	wantSums(t, "without main, no roots", m, nil, 1, nil, flow.Sum{}, flow.Sum{}, flow.Sum{}, none)
	wantSums(t, "without main, a root", m, set{1}, 2, nil, flow.Sum{}, f, flow.Sum{}, none)
	wantSums(t, "without main, a root that calls", m, set{0}, 3, nil, append(plain[:2:2], flow.Sum{}, none)...)
}

// P21.1: errors of ir.Check, then the first root that isn't a function, then the budget.
func TestErrors(t *testing.T) {
	m := rooted()
	bad := ir.Copy(m)
	bad.Funcs[2].Blocks[0].End.A = 2
	few := ir.Copy(m)
	few.Cells = make([]int64, api.MaxCells+1)
	for _, c := range []struct {
		about string
		roots []int
		want  string
	}{
		{"below 0", set{-1}, "0 symbol"},
		{"one too high", set{3}, "0 symbol"},
		{"far too high", set{math.MaxInt}, "0 symbol"},
		{"far below 0", set{0, math.MinInt}, "1 symbol"},
		{"behind others", set{0, 1, 2, 3}, "3 symbol"},
		{"the first one", set{2, 4, -1, 0}, "1 symbol"},
		{"twice", set{1, 1, 9, 9}, "2 symbol"},
	} {
		for _, budget := range []int{Bound(m), 0, -1} {
			wantError(t, c.about, m, c.roots, budget, c.want)
		}
		wantError(t, c.about+", of a module that isn't well-formed", bad, c.roots, 100, "2.0.0 register")
		wantError(t, c.about+", of too much", few, c.roots, -1, "size")
	}
	wantError(t, "not well-formed", bad, nil, 0, "2.0.0 register")
	wantError(t, "not well-formed, a root", bad, set{0}, math.MaxInt, "2.0.0 register")
	wantError(t, "a root of nothing", ir.Module{}, set{0}, 0, "0 symbol")
	wantError(t, "an import as root", ir.Module{Imports: []ir.Import{{Name: "g"}}}, set{0}, 0, "0 symbol")
}

// P21.1: whatever the budget is, it is enough just if it is as many steps as it takes.
func TestBudget(t *testing.T) {
	for about, c := range map[string]struct {
		m      ir.Module
		rounds int
	}{
		"without anything": {ir.Module{}, 0}, "five": {five(), 2}, "ways": {ways(), 3}, "counting": {counting(), 4}, "rooted": {rooted(), 3},
	} {
		x := wantRounds(t, about, c.m, nil, c.rounds)
		_, steps, _ := Solve(c.m, nil, math.MaxInt)
		bound := Bound(c.m)
		for _, budget := range []int{steps, steps + 1, bound, bound + 1, math.MaxInt} {
			if got := solve(c.m, nil, budget); fmt.Sprint(got) != fmt.Sprint(answer{x, steps, "ok"}) {
				t.Error(about, budget, got)
			}
		}
		for budget := -2; budget < steps; budget++ {
			wantError(t, about, c.m, nil, budget, "budget")
		}
		wantError(t, about, c.m, nil, math.MinInt, "budget")
	}
	// That there are steps enough is asked ahead of the round in which nothing changes, too.
	m := five()
	m.Funcs[0].Name = "f"
	wantError(t, "no step for a round that changes nothing", m, nil, 0, "budget")
}
