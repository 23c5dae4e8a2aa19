package hold

import (
	"testing"

	"averment/fact"
	"averment/fault"
	"averment/flow"
	"averment/ir"
	"averment/state"
	"averment/table"
)

// both is a module of f, which takes a number and returns it, and main, which does nothing again and again. Its sites: f's register 0, main's registers 1 and 2.
func both() ir.Module {
	return ir.Module{Cells: []int64{7, 8}, Funcs: []ir.Func{
		{Name: "f", Arity: 1, Regs: 1, Blocks: []ir.Block{{End: ir.End{Op: ir.Return}}}},
		{Name: "main", Regs: 2, Blocks: []ir.Block{{End: ir.End{Op: ir.Branch, A: 1}}}},
	}}
}

func want(t *testing.T, about string, got error, text string) {
	t.Helper()
	if fault.Text(got) != text {
		t.Errorf("%s: got %s, want %s", about, fault.Text(got), text)
	}
}

// P19.1: what a run begins with, at its places.
func TestStart(t *testing.T) {
	x := table.None(both())
	want(t, "main isn't Called", Start(both(), x), "1.1 edge")
	x.Funcs[1].Sum.Called = true
	want(t, "main is", Start(both(), x), "ok")
	x.Cells[1] = fact.Of(7)
	want(t, "a cell", Start(both(), x), "0.1 edge")
	want(t, "nothing", Start(ir.Module{}, table.Table{}), "ok")
}

// P19.1: a beginning counts once its function is Called.
func TestBegin(t *testing.T) {
	m, x := both(), table.None(both())
	want(t, "not Called", Begin(m, x, 1), "ok")
	x.Funcs[1].Sum.Called = true
	want(t, "nobody comes there", Begin(m, x, 1), "edge")
	x.Funcs[1].Blocks[0].State = state.Begin(2, nil, 1)
	want(t, "just so", Begin(m, x, 1), "ok")
	x.Funcs[1].Blocks[0].State = state.Begin(2, nil, 0)
	want(t, "from other sites", Begin(m, x, 1), "edge")
	x = table.Any(m)
	x.Funcs[0].Sum.Args[0] = fact.Of(4)
	x.Funcs[0].Blocks[0].State.Vals[0] = fact.Of(4)
	want(t, "with an argument", Begin(m, x, 0), "ok")
	x.Funcs[0].Sum.Args[0] = fact.Of(5)
	want(t, "with another argument", Begin(m, x, 0), "edge")
}

// P19.1: Needs, each at its instruction, the first one that isn't met.
func TestNeeds(t *testing.T) {
	e := table.Env(both(), table.Any(both()))
	e.Cells[1], e.Sums[0].Args[0] = fact.Of(8), fact.Of(4)
	store := func(insn int, n int64) flow.Need {
		return flow.Need{Insn: insn, Store: true, To: 1, Vals: []fact.Value{fact.Of(n)}}
	}
	call := func(insn int, n int64) flow.Need {
		return flow.Need{Insn: insn, To: 0, Vals: []fact.Value{fact.Of(n)}}
	}
	want(t, "none", Needs(e, nil), "ok")
	want(t, "met", Needs(e, []flow.Need{store(0, 8), call(1, 4)}), "ok")
	want(t, "a Store", Needs(e, []flow.Need{call(1, 4), store(3, 9), call(4, 5)}), "3 edge")
	want(t, "a Call", Needs(e, []flow.Need{store(0, 8), call(2, 5), store(3, 9)}), "2 edge")
	e.Sums[1] = flow.Sum{}
	want(t, "a Call without arguments", Needs(e, []flow.Need{{Insn: 5, To: 1}}), "5 edge")
}

// P19.1: Edges, what is returned, and registers that count.
func TestBehindABlock(t *testing.T) {
	m, x := both(), table.None(both())
	blocks := x.Funcs[1].Blocks
	want(t, "nobody comes there", Edge(flow.Edge{State: state.Begin(2, nil, 1)}, blocks), "edge")
	want(t, "nobody does", Edge(flow.Edge{}, blocks), "ok")
	blocks[0].State = state.Begin(2, nil, 1)
	want(t, "as it is told", Edge(flow.Edge{State: state.Begin(2, nil, 1)}, blocks), "ok")
	five := fact.Of(5)
	want(t, "nothing is returned", Result(flow.Out{Result: five}, flow.Sum{}), "ok")
	want(t, "it doesn't Return", Result(flow.Out{Returns: true, Result: five}, flow.Sum{Result: five}), "edge")
	want(t, "it Returns that", Result(flow.Out{Returns: true, Result: five}, flow.Sum{Returns: true, Result: five}), "ok")
	want(t, "it Returns something else", Result(flow.Out{Returns: true, Result: fact.Any()}, flow.Sum{Returns: true, Result: five}), "edge")
	want(t, "the register that is read", Live(m.Funcs[1], 0, [][]int{{1}}), "ok")
	want(t, "the other one", Live(m.Funcs[1], 0, [][]int{{0}}), "edge")
	want(t, "both", Live(m.Funcs[1], 0, [][]int{{0, 1}}), "ok")
}
