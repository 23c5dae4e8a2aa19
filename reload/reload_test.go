package reload

import (
	"fmt"
	"testing"

	"averment/edges"
	"averment/fact"
	"averment/fault"
	"averment/flow"
	"averment/ir"
	"averment/span"
	"averment/state"
	"averment/table"
)

// from is a Value that tells nothing but a Span.
func from(lo, hi int64) fact.Value {
	v := fact.Any()
	v.Span = span.Span{Lo: lo, Hi: hi}
	return v
}

// having is Reached, with Values and a set of sites for each register, by turns.
func having(parts ...any) state.State {
	s := state.State{Reached: true}
	for i := 0; i < len(parts); i += 2 {
		s.Vals = append(s.Vals, parts[i].(fact.Value))
		s.Sites = append(s.Sites, parts[i+1].([]int))
	}
	return s
}

type set = []int

func fn(name string, arity, regs int, blocks ...ir.Block) ir.Func {
	return ir.Func{Name: name, Arity: arity, Regs: regs, Blocks: blocks}
}

func block(end ir.End, insns ...ir.Insn) ir.Block { return ir.Block{Insns: insns, End: end} }

func jump(to int) ir.End { return ir.End{Op: ir.Jump, To: to} }

func branch(a, to, other int) ir.End { return ir.End{Op: ir.Branch, A: a, To: to, Else: other} }

func back(a int) ir.End { return ir.End{Op: ir.Return, A: a} }

func number(d int, n int64) ir.Insn { return ir.Insn{Op: ir.Const, D: d, N: n} }

func input(d int) ir.Insn { return ir.Insn{Op: ir.Input, D: d} }

func output(a int) ir.Insn { return ir.Insn{Op: ir.Output, A: a} }

func load(d, cell int) ir.Insn { return ir.Insn{Op: ir.Load, D: d, B: cell} }

func store(a, cell int) ir.Insn { return ir.Insn{Op: ir.Store, A: a, B: cell} }

func call(d, f int, args ...int) ir.Insn { return ir.Insn{Op: ir.Call, D: d, B: f, Args: args} }

func two(op, d, a, b int) ir.Insn { return ir.Insn{Op: op, D: d, A: a, B: b} }

// joining is a module: of main blocks 0 and 4 are cut points; one comes to 1, 2 and 5 by one Edge, to 3 by two, to 6 by none. Its sites: main's registers 0 and 1, Input 2, Const 3 and 4, Load 5, Call 6; g's register 7.
func joining() ir.Module {
	return ir.Module{Cells: []int64{1, 0}, Funcs: []ir.Func{
		fn("main", 0, 2,
			block(branch(0, 1, 2), input(0)),
			block(jump(3), number(1, 4)),
			block(jump(3), number(1, 7)),
			block(jump(4), output(1)),
			block(branch(0, 4, 5), load(0, 0), store(1, 1), call(1, 1, 1)),
			block(back(1)),
			block(back(0))),
		fn("g", 1, 1, block(back(0))),
	}}
}

// joined is the Table of joining that comes of what it tells at its cut points.
func joined() table.Table {
	w, zero := from(4, 7), fact.Of(0)
	nonzero, either := fact.Any(), fact.Join(fact.Of(4), fact.Of(7))
	nonzero.Sign = 5
	return table.Table{Cells: []fact.Value{from(0, 1), from(0, 7)}, Funcs: []table.Func{
		{Sum: flow.Sum{Called: true, Returns: true, Result: w}, Blocks: []table.Block{
			{State: having(zero, set{0}, zero, set{1})},
			{State: having(nonzero, set{2}, zero, set{1})},
			{State: having(zero, set{2}, zero, set{1})},
			{State: having(fact.Any(), set{2}, either, set{3, 4}), Live: set{1}},
			{State: having(fact.Any(), set{2, 5}, w, set{3, 4, 6}), Live: set{1}},
			{State: having(zero, set{5}, w, set{6}), Live: set{1}},
			{Live: set{0}},
		}},
		{Sum: flow.Sum{Called: true, Args: []fact.Value{w}, Returns: true, Result: w}, Blocks: []table.Block{
			{State: having(w, set{7}), Live: set{0}},
		}},
	}}
}

// bare is joined at cut points alone.
func bare() table.Table { return table.Sparse(joining(), joined()) }

// answer is all that Fill tells.
type answer struct {
	X      table.Table
	Counts Counts
	E      string
}

func fill(m ir.Module, x table.Table, sparse bool) answer {
	told, counts, e := Fill(m, x, sparse)
	return answer{told, counts, fault.Text(e)}
}

// wantFill holds what Fill tells against a Table and its Counts, part by part; nil and empty lists are one. What is made follows.
func wantFill(t *testing.T, about string, m ir.Module, x table.Table, sparse bool, want table.Table, counts Counts) {
	t.Helper()
	got := fill(m, x, sparse)
	if fmt.Sprint(got) != fmt.Sprint(answer{want, counts, "ok"}) {
		t.Errorf("%s: got %v, want %v", about, got, answer{want, counts, "ok"})
	}
	if e := edges.Check(m, got.X); e != nil && got.E == "ok" {
		t.Errorf("%s: what is made doesn't follow: %s", about, fault.Text(e))
	}
}

// wantError: Fill tells that error, and nothing else.
func wantError(t *testing.T, about string, m ir.Module, x table.Table, sparse bool, want string) {
	t.Helper()
	if got := fill(m, x, sparse); fmt.Sprint(got) != fmt.Sprint(answer{E: want}) {
		t.Errorf("%s: got %v, want %s", about, got, want)
	}
}

// P20.1: a whole Table stays as it is; of a sparse one States and Lives are made.
func TestFill(t *testing.T) {
	m := joining()
	all := Counts{Insns: 7, Cells: 2, Begins: 2, Edges: 7, Calls: 1, Stores: 1, Returns: 2, Lives: 8}
	wantFill(t, "whole", m, joined(), false, joined(), all)
	cuts := all
	cuts.Edges, cuts.Lives = 2, 3
	wantFill(t, "sparse", m, bare(), true, joined(), cuts)
	// What a whole Table tells isn't made, though less would do; of a sparse one it is made of the least that comes.
	more := joined()
	more.Funcs[0].Blocks[3] = table.Block{State: having(fact.Any(), set{2, 5}, from(4, 7), set{3, 4, 6}), Live: set{0, 1}}
	more.Funcs[0].Blocks[6] = table.Block{State: having(from(4, 5), set{7}, fact.Any(), set{}), Live: set{0, 1}}
	all.Returns = 3
	wantError(t, "whole, with registers that would count ahead of that", m, more, false, "1.0.2 edge")
	more.Funcs[0].Blocks[0].Live, more.Funcs[0].Blocks[1].Live, more.Funcs[0].Blocks[2].Live = set{0}, set{0}, set{0}
	wantFill(t, "whole, with what counts then, too", m, more, false, more, all)
	want := joined()
	want.Funcs[0].Blocks[0].Live = set{0}
	wantFill(t, "sparse of that", m, table.Sparse(m, more), true, want, cuts)
	wantFill(t, "the module without anything", ir.Module{}, table.Table{}, false, table.Table{}, Counts{})
	wantFill(t, "the same, sparse", ir.Module{}, table.Table{}, true, table.Table{}, Counts{})
}

// P20.1: what is made where one comes by no Edge, by one, by several, from cut points and from what was made.
func TestWhatIsMade(t *testing.T) {
	zero := fact.Of(0)
	above, below := fact.Any(), fact.Any()
	above.Span, below.Span = span.Span{Lo: 1, Hi: 9}, span.Span{Lo: -9, Hi: -1}
	above.Sign, below.Sign = 5, 5
	at := func(site int, vals ...fact.Value) state.State {
		s := state.State{Reached: true}
		for r, v := range vals {
			s.Vals, s.Sites = append(s.Vals, v), append(s.Sites, set{site + r})
		}
		return s
	}
	for _, c := range []struct {
		about string
		main  ir.Func
		first fact.Value
		want  []state.State
		lives []set
	}{
		{"one block", fn("f", 1, 1, block(back(0))), from(0, 9), []state.State{at(0, from(0, 9))}, []set{{0}}},
		{"one Edge, by both ways of a Branch", fn("f", 1, 1, block(branch(0, 1, 1)), block(back(0))), from(0, 9),
			[]state.State{at(0, from(0, 9)), at(0, from(0, 9))}, []set{{0}, {0}}},
		{"a way each", fn("f", 1, 1, block(branch(0, 1, 2)), block(back(0)), block(back(0))), from(0, 9),
			[]state.State{at(0, from(0, 9)), at(0, above), at(0, zero)}, []set{{0}, {0}, {0}}},
		{"To alone", fn("f", 1, 1, block(branch(0, 1, 2)), block(back(0)), block(back(0))), above,
			[]state.State{at(0, above), at(0, above), {}}, []set{{0}, {0}, {0}}},
		{"Else alone", fn("f", 1, 1, block(branch(0, 1, 2)), block(back(0)), block(back(0))), zero,
			[]state.State{at(0, zero), {}, at(0, zero)}, []set{{0}, {0}, {0}}},
		{"two Edges, of which one comes", fn("f", 1, 1, block(branch(0, 1, 2)), block(jump(2)), block(back(0))), below,
			[]state.State{at(0, below), at(0, below), at(0, below)}, []set{{0}, {0}, {0}}},
		{"two Edges, one behind the other", fn("f", 1, 1, block(branch(0, 1, 2)), block(jump(2)), block(back(0))), from(-9, 0),
			[]state.State{at(0, from(-9, 0)), at(0, below), at(0, fact.Join(below, zero))}, []set{{0}, {0}, {0}}},
		{"nobody behind a trap", fn("f", 1, 2, block(jump(1), two(ir.Rem, 0, 0, 1)), block(branch(0, 2, 3)), block(jump(3)), block(back(0))), from(-9, 0),
			[]state.State{at(0, from(-9, 0), zero), {}, {}, {}}, []set{{0, 1}, {0}, {0}, {0}}},
		{"no way at all", fn("f", 1, 1, block(back(0)), block(jump(2)), block(back(0))), zero,
			[]state.State{at(0, zero), {}, {}}, []set{{0}, {0}, {0}}},
	} {
		m := ir.Module{Funcs: []ir.Func{c.main}}
		want := table.Table{Funcs: []table.Func{{Sum: flow.Sum{Called: true, Args: []fact.Value{c.first}, Returns: true, Result: fact.Any()}}}}
		for b := range c.want {
			want.Funcs[0].Blocks = append(want.Funcs[0].Blocks, table.Block{State: c.want[b], Live: c.lives[b]})
		}
		got := fill(m, table.Sparse(m, want), true)
		if got.E != "ok" || fmt.Sprint(got.X) != fmt.Sprint(want) {
			t.Errorf("%s: got %v, want %v", c.about, got, want)
		}
		if e := edges.Check(m, want); e != nil {
			t.Errorf("%s doesn't follow: %s", c.about, fault.Text(e))
		}
	}
}

// P20.1: of several Edges all that they have is joined: signs, numbers, sites.
func TestSeveralEdges(t *testing.T) {
	// Its sites: registers 0 and 1, Input 2, Const 3, 4, 5.
	m := ir.Module{Funcs: []ir.Func{fn("main", 0, 2,
		block(branch(0, 1, 2), input(0)),
		block(jump(4), number(1, 2)),
		block(branch(0, 3, 4), number(1, 4)),
		block(jump(4), number(1, 1000)),
		block(back(1)))}}
	x := table.None(m)
	x.Funcs[0].Sum = flow.Sum{Called: true, Returns: true, Result: fact.Join(fact.Of(2), fact.Of(4))}
	x.Funcs[0].Blocks[0].State = state.Begin(2, nil, 0)
	got := fill(m, x, true)
	last := having(fact.Any(), set{2}, fact.Join(fact.Of(2), fact.Of(4)), set{3, 4})
	// Nobody comes to block 3: ahead of block 2 register 0 is 0.
	if made := got.X.Funcs[0].Blocks; got.E != "ok" || !state.Equal(made[4].State, last) || made[3].State.Reached {
		t.Error("two of three:", got)
	}
	m.Funcs[0].Blocks[2].Insns = append(m.Funcs[0].Blocks[2].Insns, input(0))
	wantError(t, "all three, and less is told to be returned", m, x, true, "1.0.4.0 edge")
	x.Funcs[0].Sum.Result = fact.Join(x.Funcs[0].Sum.Result, fact.Of(1000))
	got = fill(m, x, true)
	last = having(fact.Any(), set{2, 5}, fact.Join(fact.Of(2), fact.Of(1000)), set{3, 4, 6})
	if made := got.X.Funcs[0].Blocks; got.E != "ok" || !state.Equal(made[4].State, last) {
		t.Error("all three:", got)
	}
}

// counting is a module of one loop: main's block 1 adds 1 to register 0 again and again, block 2 behind it does nothing, and goes back there.
func counting() ir.Module {
	return ir.Module{Funcs: []ir.Func{fn("main", 0, 2,
		block(jump(1), number(1, 1)),
		block(branch(0, 2, 3), two(ir.Add, 0, 0, 1)),
		block(jump(1)),
		block(back(0)))}}
}

// counted tells of the loop's head that register 0 is from lo on.
func counted(lo, hi int64) table.Table {
	one, none := fact.Of(1), fact.Of(0)
	// Its sites: registers 0 and 1, Const 2, Add 3.
	head := table.Block{State: having(from(lo, hi), set{0, 3}, one, set{2}), Live: set{0, 1}}
	return table.Table{Funcs: []table.Func{{Sum: flow.Sum{Called: true, Returns: true, Result: none}, Blocks: []table.Block{
		{State: having(none, set{0}, none, set{1}), Live: set{0}}, head, {}, {},
	}}}}
}

// P20.1: a loop whose head tells too little doesn't follow, at the End that comes back to it.
func TestALoop(t *testing.T) {
	m := counting()
	wantError(t, "up to 9", m, counted(0, 9), true, "1.0.2.0 edge")
	wantError(t, "from 0 on", m, counted(0, span.Greatest), true, "1.0.2.0 edge")
	wantError(t, "up to the greatest int", m, counted(span.Least, span.Greatest-1), true, "1.0.2.0 edge")
	wantError(t, "not from 0", m, counted(1, span.Greatest), true, "1.0.0.1 edge")
	x := counted(span.Least, span.Greatest)
	got := fill(m, x, true)
	if got.E != "ok" || got.Counts != (Counts{Insns: 2, Begins: 1, Edges: 2, Returns: 1, Lives: 2}) {
		t.Error("all numbers:", got)
	}
	less := counted(span.Least, span.Greatest)
	less.Funcs[0].Blocks[1].State.Sites[0] = set{0}
	wantError(t, "a site too few", m, less, true, "1.0.2.0 edge")
	less = counted(span.Least, span.Greatest)
	less.Funcs[0].Blocks[1].State = state.None()
	wantError(t, "nobody comes there", m, less, true, "1.0.0.1 edge")
	// A loop of one block, whose End comes back to itself.
	m.Funcs[0].Blocks[1].End = branch(0, 1, 3)
	wantError(t, "a loop of one block", m, counted(0, 9), true, "1.0.1.1 edge")
}

// P20.1: registers that count are made from the last block to the first, of what is told at cut points.
func TestLives(t *testing.T) {
	// Blocks 0 and 3 are cut points; 1 goes to 2, which goes to 3; 4 and 5 are behind the loop.
	m := ir.Module{Funcs: []ir.Func{fn("main", 0, 6,
		block(branch(0, 1, 5)),
		block(jump(2), output(1)),
		block(jump(3), output(2), number(3, 1)),
		block(branch(3, 3, 4)),
		block(jump(5), output(4)),
		block(back(5), number(2, 1)))}}
	x := table.None(m)
	x.Funcs[0].Sum = flow.Sum{Called: true, Returns: true, Result: fact.Of(0)}
	x.Funcs[0].Blocks[0].State = state.Begin(6, nil, 0)
	head := &x.Funcs[0].Blocks[3]
	x.Funcs[0].Blocks[0].Live, head.Live = set{0, 1, 2, 4, 5}, set{3, 4, 5}
	made := func() string {
		var lives []set
		got := fill(m, x, true)
		if got.E != "ok" {
			return got.E
		}
		for _, b := range got.X.Funcs[0].Blocks {
			lives = append(lives, b.Live)
		}
		return fmt.Sprint(lives)
	}
	for _, c := range []struct {
		about       string
		first, head set
		want        string
	}{
		{"what counts", set{0, 1, 2, 4, 5}, set{3, 4, 5}, "[[0 1 2 4 5] [1 2 4 5] [2 4 5] [3 4 5] [4 5] [5]]"},
		{"more at the head", set{0, 1, 2, 4, 5}, set{1, 3, 4, 5}, "[[0 1 2 4 5] [1 2 4 5] [1 2 4 5] [1 3 4 5] [4 5] [5]]"},
		{"more at the head, that counts ahead of block 0, too", set{0, 1, 2, 4, 5}, set{0, 3, 4, 5}, "[[0 1 2 4 5] [0 1 2 4 5] [0 2 4 5] [0 3 4 5] [4 5] [5]]"},
		{"more at the beginning alone", set{0, 1, 2, 3, 4, 5}, set{3, 4, 5}, "[[0 1 2 3 4 5] [1 2 4 5] [2 4 5] [3 4 5] [4 5] [5]]"},
		{"less at the head: what is made behind it", set{0, 1, 2, 4, 5}, set{3, 5}, "1.0.3 edge"},
		{"less at the beginning: what is made behind it", set{0, 1, 4, 5}, set{3, 4, 5}, "1.0.0 edge"},
		{"less at both: the last block is told", set{0, 1, 4, 5}, set{3, 5}, "1.0.3 edge"},
		{"nothing", nil, nil, "1.0.3 edge"},
	} {
		x.Funcs[0].Blocks[0].Live, head.Live = c.first, c.head
		if got := made(); got != c.want {
			t.Errorf("%s: got %s, want %s", c.about, got, c.want)
		}
	}
}

// change is something that doesn't follow any more: where, if all is told, and if cut points alone are (none: that is made).
type change struct {
	about, whole, sparse string
	change               func(x *table.Table)
}

// changes are such of joined, in the order of their places, each of which alone is wrong.
func changes() []change {
	main := func(x *table.Table, b int) *table.Block { return &x.Funcs[0].Blocks[b] }
	return []change{
		{"what cell 0 begins with", "0.0 edge", "0.0 edge", func(x *table.Table) { x.Cells[0].Parity = 1 }},
		{"what cell 1 begins with", "0.1 edge", "0.1 edge", func(x *table.Table) { x.Cells[1] = from(1, 7) }},
		{"main isn't Called", "1.0 edge", "1.0 edge", func(x *table.Table) { x.Funcs[0].Sum.Called = false }},
		{"main's beginning", "1.0 edge", "1.0 edge", func(x *table.Table) { main(x, 0).State.Vals[0] = fact.Of(1) }},
		{"an Edge to a block that isn't a cut point", "1.0.0.1 edge", "", func(x *table.Table) { main(x, 1).State.Sites[0] = nil }},
		{"an Edge to where nobody comes", "1.0.0.1 edge", "", func(x *table.Table) { main(x, 2).State = state.None() }},
		{"the second Edge to a block", "1.0.2.1 edge", "", func(x *table.Table) { main(x, 3).State.Vals[1] = fact.Of(4) }},
		{"an Edge of a joined State to a cut point", "1.0.3.1 edge", "1.0.3.1 edge", func(x *table.Table) { main(x, 4).State.Vals[1] = from(5, 7) }},
		{"what is stored", "1.0.4.1 edge", "1.0.4.1 edge", func(x *table.Table) { x.Cells[1] = from(0, 6) }},
		{"an argument", "1.0.4.2 edge", "1.0.4.2 edge", func(x *table.Table) {
			x.Funcs[1].Sum.Called, x.Funcs[1].Sum.Args = true, []fact.Value{from(4, 6)}
		}},
		{"what is called isn't Called", "1.0.4.2 edge", "1.0.4.2 edge", func(x *table.Table) {
			x.Funcs[1].Sum.Called, x.Funcs[1].Sum.Args = false, nil
		}},
		{"an Edge that comes back", "1.0.4.3 edge", "1.0.4.3 edge", func(x *table.Table) { main(x, 4).State.Sites[1] = set{3, 4} }},
		{"main's Result", "1.0.5.0 edge", "1.0.5.0 edge", func(x *table.Table) {
			x.Funcs[0].Sum.Returns, x.Funcs[0].Sum.Result = true, from(4, 5)
		}},
		{"main doesn't Return", "1.0.5.0 edge", "1.0.5.0 edge", func(x *table.Table) {
			x.Funcs[0].Sum.Returns, x.Funcs[0].Sum.Result = false, fact.Value{}
		}},
		{"registers where nobody comes", "1.0.6 edge", "", func(x *table.Table) { main(x, 6).Live = nil }},
		{"registers behind the loop", "1.0.5 edge", "", func(x *table.Table) { main(x, 5).Live = nil }},
		{"registers of the loop", "1.0.4 edge", "1.0.4 edge", func(x *table.Table) { main(x, 4).Live = set{0} }},
		{"registers ahead of the loop", "1.0.3 edge", "", func(x *table.Table) { main(x, 3).Live = nil }},
		{"g's beginning", "1.1 edge", "1.1 edge", func(x *table.Table) { x.Funcs[1].Blocks[0].State.Vals[0] = from(4, 6) }},
		{"g's Result", "1.1.0.0 edge", "1.1.0.0 edge", func(x *table.Table) { x.Funcs[1].Sum.Result = from(4, 6) }},
		{"g's registers", "1.1.0 edge", "1.1.0 edge", func(x *table.Table) { x.Funcs[1].Blocks[0].Live = nil }},
	}
}

// P20.1: each place at which something may not follow, alone and beside a later one, of which the first is told; all else is zero.
func TestPlaces(t *testing.T) {
	all := changes()
	for i, first := range all {
		for j, later := range all[i:] {
			about := first.about
			x := joined()
			if j > 0 {
				about += ", and " + later.about
				later.change(&x)
			}
			first.change(&x)
			wantError(t, about+", whole", joining(), x, false, first.whole)
			if first.sparse != "" {
				wantError(t, about+", sparse", joining(), table.Sparse(joining(), x), true, first.sparse)
			}
		}
		if x := joined(); first.sparse == "" {
			first.change(&x)
			if got := fill(joining(), table.Sparse(joining(), x), true); got.E != "ok" || !table.Equal(got.X, joined()) {
				t.Error(first.about, "isn't made", got)
			}
		}
	}
}

// P20.1: errors of table.Check, of a whole and of a sparse Table, are ahead of all else.
func TestErrorsOfTheTable(t *testing.T) {
	wantError(t, "whole, as a sparse one", joining(), joined(), true, "1.0.1 shape")
	wantError(t, "sparse, as a whole one", joining(), bare(), false, "1.0.0.1 edge")
	wantError(t, "nothing is told", joining(), table.Table{}, true, "shape")
	wantError(t, "of nothing", ir.Module{}, bare(), true, "shape")
	for _, c := range []struct {
		about, want string
		change      func(m *ir.Module, x *table.Table)
	}{
		{"the module", "1.0.0 register", func(m *ir.Module, x *table.Table) { m.Funcs[1].Blocks[0].End.A = 1 }},
		{"fewer cells", "shape", func(m *ir.Module, x *table.Table) { x.Cells = x.Cells[:1] }},
		{"a cell", "0.1 fact", func(m *ir.Module, x *table.Table) { x.Cells[1].Sign = 0 }},
		{"a Sum", "1.1 shape", func(m *ir.Module, x *table.Table) { x.Funcs[1].Sum.Args = nil }},
		{"fewer blocks", "1.1 shape", func(m *ir.Module, x *table.Table) { x.Funcs[1].Blocks = nil }},
		{"fewer registers", "1.1.0 shape", func(m *ir.Module, x *table.Table) { x.Funcs[1].Blocks[0].State.Vals = nil }},
		{"a site that is none", "1.1.0 fact", func(m *ir.Module, x *table.Table) { x.Funcs[1].Blocks[0].State.Sites[0] = set{8} }},
		{"a register that is none", "1.1.0 fact", func(m *ir.Module, x *table.Table) { x.Funcs[1].Blocks[0].Live = set{1} }},
	} {
		for _, wrong := range append(changes()[:4], change{change: func(*table.Table) {}}) {
			m, x := joining(), joined()
			wrong.change(&x)
			y := table.Sparse(m, x)
			c.change(&m, &x)
			wantError(t, c.about+", "+wrong.about+", whole", m, x, false, c.want)
			m = joining()
			c.change(&m, &y)
			wantError(t, c.about+", "+wrong.about+", sparse", m, y, true, c.want)
		}
	}
	x := bare()
	x.Cells[0] = fact.Of(5)
	x.Funcs[0].Blocks[6].Live = set{0}
	wantError(t, "a register at a block that is no cut point, and a cell", joining(), x, true, "1.0.6 shape")
	wantError(t, "the same, as a whole one", joining(), x, false, "0.0 edge")
}

// P20.1: what begins, and what doesn't, with nothing else told.
func TestBeginnings(t *testing.T) {
	m := ir.Module{Cells: []int64{3}, Funcs: []ir.Func{fn("f", 0, 1, block(jump(0))), fn("main", 0, 1, block(jump(0)))}}
	for _, sparse := range []bool{false, true} {
		x := table.None(m)
		wantError(t, "main isn't Called", m, x, sparse, "1.1 edge")
		x.Funcs[0].Sum.Called = true
		wantError(t, "main isn't Called, and f's beginning", m, x, sparse, "1.1 edge")
		x.Funcs[1].Sum.Called = true
		wantError(t, "both beginnings", m, x, sparse, "1.0 edge")
		x.Cells[0] = fact.Of(2)
		wantError(t, "a cell, and both beginnings", m, x, sparse, "0.0 edge")
		bare := ir.Module{Cells: []int64{3, -3}, Imports: []ir.Import{{Name: "main"}}}
		wantFill(t, "no functions", bare, table.None(bare), sparse, table.None(bare), Counts{Cells: 2})
		takes := ir.Module{Funcs: []ir.Func{fn("main", 1, 1, block(jump(0)))}}
		wantFill(t, "main takes an argument", takes, table.None(takes), sparse, table.None(takes), Counts{Edges: 0, Lives: 1})
	}
}

// P20.1: registers are held behind all blocks of their function, ahead of the next function.
func TestOrderOfLives(t *testing.T) {
	m := ir.Module{Funcs: []ir.Func{
		fn("f", 0, 1, block(branch(0, 0, 1)), block(branch(0, 1, 2)), block(back(0))),
		fn("g", 0, 1, block(back(0))),
	}}
	x := table.Any(m)
	x.Funcs[0].Blocks[0].Live, x.Funcs[0].Blocks[1].Live = nil, nil
	x.Funcs[0].Sum.Result = fact.Of(0)
	x.Funcs[1].Blocks[0].State = state.None()
	for _, sparse := range []bool{false, true} {
		y := x
		if sparse {
			y = table.Sparse(m, x)
		}
		// In a sparse one block 2 is made of what goes on there: 0.
		want := "1.0.2.0 edge"
		if sparse {
			want = "1.0.1 edge"
		}
		wantError(t, "what is returned, registers, and g's beginning", m, y, sparse, want)
		y = table.Copy(y)
		y.Funcs[0].Sum.Result = fact.Any()
		wantError(t, "registers, and g's beginning", m, y, sparse, "1.0.1 edge")
		y.Funcs[0].Blocks[1].Live = set{0}
		wantError(t, "registers of block 0, and g's beginning", m, y, sparse, "1.0.0 edge")
		y.Funcs[0].Blocks[0].Live = set{0}
		wantError(t, "g's beginning", m, y, sparse, "1.1 edge")
	}
}

// P20.1, P20.4: each of Counts, of what is held, whole and sparse.
func TestCounts(t *testing.T) {
	store0, g := store(0, 0), ir.Import{Name: "g", Arity: 1}
	for _, c := range []struct {
		about         string
		m             ir.Module
		whole, sparse Counts
	}{
		{"cells", ir.Module{Cells: []int64{1, 2, 3}}, Counts{Cells: 3}, Counts{Cells: 3}},
		{"imports", ir.Module{Imports: []ir.Import{g}}, Counts{}, Counts{}},
		{"a loop", ir.Module{Funcs: []ir.Func{fn("f", 0, 1, block(jump(0)))}},
			Counts{Begins: 1, Edges: 1, Lives: 1}, Counts{Begins: 1, Edges: 1, Lives: 1}},
		{"two functions", ir.Module{Funcs: []ir.Func{fn("f", 1, 1, block(back(0))), fn("main", 0, 1, block(back(0)))}},
			Counts{Begins: 2, Returns: 2, Lives: 2}, Counts{Begins: 2, Returns: 2, Lives: 2}},
		{"blocks one behind the other", ir.Module{Funcs: []ir.Func{fn("f", 0, 1, block(jump(1), output(0)), block(jump(2), output(0), output(0)), block(back(0)))}},
			Counts{Insns: 3, Begins: 1, Edges: 2, Returns: 1, Lives: 3}, Counts{Insns: 3, Begins: 1, Returns: 1, Lives: 1}},
		{"a Branch to one block", ir.Module{Funcs: []ir.Func{fn("f", 0, 1, block(branch(0, 0, 0)))}},
			Counts{Begins: 1, Edges: 1, Lives: 1}, Counts{Begins: 1, Edges: 1, Lives: 1}},
		// Of a sparse one block 1 has 0 alone, so that nobody goes on to block 2.
		{"a Branch back, or on", ir.Module{Funcs: []ir.Func{fn("f", 0, 1, block(branch(0, 0, 1)), block(branch(0, 2, 0)), block(back(0)))}},
			Counts{Begins: 1, Edges: 4, Returns: 1, Lives: 3}, Counts{Begins: 1, Edges: 2, Lives: 1}},
		{"stores", ir.Module{Cells: []int64{0}, Funcs: []ir.Func{fn("f", 0, 1, block(jump(1), store0, store0), block(back(0), store0))}},
			Counts{Insns: 3, Cells: 1, Begins: 1, Edges: 1, Stores: 3, Returns: 1, Lives: 2}, Counts{Insns: 3, Cells: 1, Begins: 1, Stores: 3, Returns: 1, Lives: 1}},
		{"calls of itself, and of an import", ir.Module{Funcs: []ir.Func{fn("f", 0, 1, block(back(0), call(0, 0), call(0, 1, 0), call(0, 0)))}, Imports: []ir.Import{g}},
			Counts{Insns: 3, Begins: 1, Calls: 3, Returns: 1, Lives: 1}, Counts{Insns: 3, Begins: 1, Calls: 3, Returns: 1, Lives: 1}},
		// Whoever comes to block 1 traps at Div: what stands behind that is gone through, but nothing follows from it.
		{"a trap", ir.Module{Cells: []int64{0}, Funcs: []ir.Func{fn("f", 0, 2, block(jump(1), number(0, 0)), block(jump(1), store0, number(1, 0), two(ir.Div, 1, 0, 1), store0, call(0, 0)))}},
			Counts{Insns: 6, Cells: 1, Begins: 1, Edges: 1, Stores: 1, Lives: 2}, Counts{Insns: 6, Cells: 1, Begins: 1, Edges: 1, Stores: 1, Lives: 2}},
		// No way leads to block 1. Any tells that somebody comes there; of a sparse Table nobody does.
		{"no way", ir.Module{Cells: []int64{0}, Funcs: []ir.Func{fn("f", 0, 1, block(back(0)), block(back(0), store0, call(0, 0)))}},
			Counts{Insns: 2, Cells: 1, Begins: 1, Calls: 1, Stores: 1, Returns: 2, Lives: 2}, Counts{Insns: 2, Cells: 1, Begins: 1, Returns: 1, Lives: 1}},
	} {
		x := table.Any(c.m)
		if got := fill(c.m, x, false); got.E != "ok" || got.Counts != c.whole {
			t.Errorf("%s, whole: got %v %v, want %v", c.about, got.E, got.Counts, c.whole)
		}
		if got := fill(c.m, table.Sparse(c.m, x), true); got.E != "ok" || got.Counts != c.sparse {
			t.Errorf("%s, sparse: got %v %v, want %v", c.about, got.E, got.Counts, c.sparse)
		}
	}
}

// P20.1, P20.4: where nobody comes nothing is held but cells and registers; instructions are gone through all the same.
func TestCountsWhereNobodyComes(t *testing.T) {
	m := ir.Module{Cells: []int64{0, 1}, Funcs: []ir.Func{
		fn("f", 0, 1, block(branch(0, 1, 2), input(0)), block(jump(2), store(0, 0), call(0, 0)), block(branch(0, 2, 1), output(0))),
		fn("g", 2, 2, block(back(0))),
	}}
	x := table.None(m)
	for _, b := range []int{1, 2} {
		x.Funcs[0].Blocks[b].Live = set{0}
	}
	x.Funcs[1].Blocks[0].Live = set{0}
	wantFill(t, "whole", m, x, false, x, Counts{Insns: 4, Cells: 2, Lives: 4})
	wantFill(t, "sparse", m, x, true, x, Counts{Insns: 4, Cells: 2, Lives: 4})
	// One that isn't Called goes on from what is told of its blocks, but nothing is held against its beginning.
	x.Funcs[1].Blocks[0].State = having(from(1, 2), set{}, from(3, 4), set{0})
	x.Funcs[1].Sum.Returns, x.Funcs[1].Sum.Result = true, from(1, 2)
	wantFill(t, "not Called, but it Returns", m, x, false, x, Counts{Insns: 4, Cells: 2, Returns: 1, Lives: 4})
	x.Funcs[1].Sum.Result = fact.Of(2)
	wantError(t, "and what it returns", m, x, false, "1.1.0.0 edge")
}
