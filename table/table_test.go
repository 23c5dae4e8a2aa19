package table

import (
	"fmt"
	"slices"
	"testing"

	"averment/api"
	"averment/fact"
	"averment/fault"
	"averment/flow"
	"averment/ir"
	"averment/known"
	"averment/span"
	"averment/state"
)

// from is a Value that tells nothing but a Span.
func from(lo, hi int64) fact.Value {
	v := fact.Any()
	v.Span = span.Span{Lo: lo, Hi: hi}
	return v
}

// of are the Values of numbers.
func of(numbers ...int64) []fact.Value {
	var vals []fact.Value
	for _, n := range numbers {
		vals = append(vals, fact.Of(n))
	}
	return vals
}

// having is Reached, with these sites for each of its registers, whose numbers are 0, 1 ..
func having(sites ...[]int) state.State {
	s := state.State{Reached: true, Sites: sites}
	for r := range sites {
		s.Vals = append(s.Vals, fact.Of(int64(r)))
	}
	return s
}

// returning is a function that returns its register 0 at once.
func returning(name string, arity, regs int) ir.Func {
	return ir.Func{Name: name, Arity: arity, Regs: regs, Blocks: []ir.Block{{End: ir.End{Op: ir.Return}}}}
}

// two is a module of two functions, with sites 0 to 3 and 4 to 7: of main blocks 0 and 1 are cut points, 2 and 3 aren't; of g block 0 alone is one.
func two() ir.Module {
	return ir.Module{
		Cells: []int64{5, -1},
		Funcs: []ir.Func{
			{Name: "main", Regs: 2, Blocks: []ir.Block{
				{Insns: []ir.Insn{{Op: ir.Load, D: 1, B: 1}}, End: ir.End{Op: ir.Jump, To: 1}},
				{Insns: []ir.Insn{{Op: ir.Input}}, End: ir.End{Op: ir.Branch, To: 2, Else: 3}},
				{Insns: []ir.Insn{{Op: ir.Output, A: 1}}, End: ir.End{Op: ir.Jump, To: 1}},
				{End: ir.End{Op: ir.Return, A: 1}},
			}},
			{Name: "g", Arity: 2, Regs: 3, Blocks: []ir.Block{
				{Insns: []ir.Insn{{Op: ir.Call, D: 2, B: 2, Args: []int{0}}}, End: ir.End{Op: ir.Branch, A: 2, To: 0, Else: 1}},
				{End: ir.End{Op: ir.Return, A: 2}},
			}},
		},
		Imports: []ir.Import{{Name: "h", Arity: 1}, {Name: "i"}, {Name: "j", Arity: 2}},
	}
}

// told is a Table of two, in normal form, with something of each kind.
func told() Table {
	return Table{
		Cells: []fact.Value{from(0, 9), fact.Of(-1)},
		Funcs: []Func{
			{Sum: flow.Sum{Called: true}, Blocks: []Block{
				{State: having([]int{0}, []int{1}), Live: []int{1}},
				{State: having([]int{0, 3}, []int{0, 1, 2, 3, 4, 5, 6, 7}), Live: []int{0, 1}},
				{State: having(nil, []int{7})},
				{State: state.None(), Live: []int{0}},
			}},
			{Sum: flow.Sum{Called: true, Args: of(3, 4), Returns: true, Result: from(-2, 2)}, Blocks: []Block{
				{State: having([]int{4}, []int{5}, []int{6, 7}), Live: []int{0, 2}},
				{State: having([]int{4}, []int{5}, []int{7}), Live: []int{2}},
			}},
		},
		Imports: []flow.Sum{
			{Called: true, Args: of(6), Returns: true, Result: fact.Of(8)},
			{Returns: true, Result: fact.Any()},
			{Called: true, Args: of(1, 2)},
		},
	}
}

// wantTable holds a Table against another one, part by part; nil and empty lists are one.
func wantTable(t *testing.T, what string, got, want Table) {
	t.Helper()
	if fmt.Sprint(got) != fmt.Sprint(want) {
		t.Errorf("%s: got %v, want %v", what, got, want)
	}
}

// wantRight: Check has nothing to say.
func wantRight(t *testing.T, what string, m ir.Module, told Table, sparse bool) {
	t.Helper()
	if e := Check(m, told, sparse); e != nil {
		t.Errorf("%s: %s", what, fault.Text(e))
	}
}

// P17.1: what is in normal form.
func TestCheckOfWhatIsRight(t *testing.T) {
	wantRight(t, "nothing", ir.Module{}, Table{}, false)
	wantRight(t, "nothing, sparse", ir.Module{}, Table{}, true)
	wantRight(t, "empty lists", ir.Module{Cells: []int64{}}, Table{Cells: []fact.Value{}, Funcs: []Func{}, Imports: []flow.Sum{}}, false)
	wantRight(t, "told", two(), told(), false)
	bare := told()
	for _, b := range []*Block{&bare.Funcs[0].Blocks[2], &bare.Funcs[0].Blocks[3], &bare.Funcs[1].Blocks[1]} {
		*b = Block{State: state.State{Vals: []fact.Value{}, Sites: [][]int{}}, Live: []int{}}
	}
	wantRight(t, "told of cut points alone", two(), bare, true)
	wantRight(t, "the same, not sparse", two(), bare, false)
	bare.Funcs[0].Blocks[1] = Block{}
	wantRight(t, "a cut point need not be Reached", two(), bare, true)
	bare.Funcs[0].Blocks[1] = Block{Live: []int{0, 1}}
	wantRight(t, "a cut point with Live alone", two(), bare, true)
	// Nothing of it need be so, and the four of a Value need not go together.
	odd := told()
	odd.Cells[0] = fact.Value{Sign: 1, Known: known.Of(7), Span: span.Of(-3), Parity: 1}
	odd.Funcs[0].Sum = flow.Sum{Returns: true, Result: odd.Cells[0]}
	wantRight(t, "what isn't so", two(), odd, false)
}

// wrong is something that is wrong with a module or its Table, and what is told of it.
type wrong struct {
	about  string
	want   string
	change func(m *ir.Module, t *Table)
}

// notRight are Values each of which is wrong in one of its four.
func notRight() []fact.Value {
	vals := slices.Repeat([]fact.Value{fact.Any()}, 7)
	vals[0].Sign = 0
	vals[1].Sign = 8
	vals[2].Known.N = 1
	vals[3].Span = span.Span{Lo: 1, Hi: 0}
	vals[4].Parity = 0
	vals[5].Parity = 4
	vals[6] = fact.Value{}
	return vals
}

// inModule are what ir.Check tells, and counts that don't fit: Check's 1.
func inModule() []wrong {
	return []wrong{
		{"17 cells", "size", func(m *ir.Module, t *Table) { m.Cells = make([]int64, 17); t.Cells = make([]fact.Value, 17) }},
		{"a name", "0 name", func(m *ir.Module, t *Table) { m.Funcs[0].Name = "" }},
		{"no such register", "1.0.1 register", func(m *ir.Module, t *Table) { m.Funcs[1].Blocks[0].End.A = 3 }},
		{"an import's name", "4 form", func(m *ir.Module, t *Table) { m.Imports[2].Name = "a" }},
		{"a Cell less", "shape", func(m *ir.Module, t *Table) { t.Cells = told().Cells[:1] }},
		{"a Cell more", "shape", func(m *ir.Module, t *Table) { t.Cells = append(t.Cells, fact.Any()) }},
		{"no Cells", "shape", func(m *ir.Module, t *Table) { t.Cells = nil }},
		{"a Func less", "shape", func(m *ir.Module, t *Table) { t.Funcs = told().Funcs[:1] }},
		{"a Func more", "shape", func(m *ir.Module, t *Table) { t.Funcs = append(t.Funcs, Func{}) }},
		{"no Funcs", "shape", func(m *ir.Module, t *Table) { t.Funcs = nil }},
		{"an Import less", "shape", func(m *ir.Module, t *Table) { t.Imports = told().Imports[:2] }},
		{"an Import more", "shape", func(m *ir.Module, t *Table) { t.Imports = append(t.Imports, flow.Sum{}) }},
		{"no Imports", "shape", func(m *ir.Module, t *Table) { t.Imports = nil }},
		{"nothing", "shape", func(m *ir.Module, t *Table) { *t = Table{} }},
	}
}

// inSum are what may be wrong with the Sum of a function with so many arguments, at that place.
func inSum(at string, arity int, sum func(t *Table) *flow.Sum) []wrong {
	var list []wrong
	add := func(about, want string, change func(s *flow.Sum)) {
		list = append(list, wrong{at + ": " + about, at + " " + want, func(m *ir.Module, t *Table) { change(sum(t)) }})
	}
	add("an argument more", "shape", func(s *flow.Sum) {
		*s = flow.Sum{Called: true, Args: slices.Repeat(of(1), arity+1)}
	})
	add("not Called, with Args", "shape", func(s *flow.Sum) {
		*s = flow.Sum{Args: slices.Repeat(of(1), max(1, arity))}
	})
	if arity > 0 {
		add("an argument less", "shape", func(s *flow.Sum) {
			*s = flow.Sum{Called: true, Args: slices.Repeat(of(1), arity-1), Returns: true, Result: fact.Of(1)}
		})
	}
	for i, v := range notRight() {
		for a := range arity {
			add(fmt.Sprint("argument ", a, " isn't Right, ", i), "fact", func(s *flow.Sum) {
				*s = flow.Sum{Called: true, Args: slices.Repeat(of(1), arity)}
				s.Args[a] = v
			})
		}
		add(fmt.Sprint("Result isn't Right, ", i), "fact", func(s *flow.Sum) {
			*s = flow.Sum{Returns: true, Result: v}
		})
	}
	for _, v := range []fact.Value{fact.Of(0), fact.Any(), {Sign: 1}, {Parity: 1}, {Span: span.Of(1)}, {Known: known.Of(0)}} {
		add(fmt.Sprint("it doesn't Return, with a Result ", v), "fact", func(s *flow.Sum) {
			*s = flow.Sum{Called: true, Args: slices.Repeat(of(1), arity), Result: v}
		})
	}
	return list
}

// inBlock are what may be wrong with what is told of a block, at that place; regs of its function; sites of two: 8.
func inBlock(at string, regs int, block func(t *Table) *Block) []wrong {
	var list []wrong
	add := func(about, want string, change func(b *Block)) {
		list = append(list, wrong{at + ": " + about, at + " " + want, func(m *ir.Module, t *Table) {
			b := block(t)
			b.State = having(make([][]int, regs)...)
			change(b)
		}})
	}
	add("a Value less", "shape", func(b *Block) { b.State.Vals = b.State.Vals[1:] })
	add("a Value more", "shape", func(b *Block) { b.State.Vals = append(b.State.Vals, fact.Any()) })
	add("no Values", "shape", func(b *Block) { b.State.Vals = nil })
	add("a set less", "shape", func(b *Block) { b.State.Sites = b.State.Sites[1:] })
	add("a set more", "shape", func(b *Block) { b.State.Sites = append(b.State.Sites, nil) })
	add("no sets", "shape", func(b *Block) { b.State.Sites = nil })
	add("neither", "shape", func(b *Block) { b.State.Vals, b.State.Sites = nil, nil })
	add("not Reached, with both", "shape", func(b *Block) { b.State.Reached = false })
	add("not Reached, with Vals", "shape", func(b *Block) { b.State.Reached, b.State.Sites = false, nil })
	add("not Reached, with Sites", "shape", func(b *Block) { b.State.Reached, b.State.Vals = false, nil })
	for r := range regs {
		for i, v := range notRight() {
			add(fmt.Sprint("Value ", r, " isn't Right, ", i), "fact", func(b *Block) { b.State.Vals[r] = v })
		}
		for _, set := range [][]int{{8}, {0, 8}, {9}, {4095}, {4096}, {1 << 62}, {-1}, {-1, 3}, {3, 3}, {4, 3}} {
			add(fmt.Sprint("set ", r, " is ", set), "fact", func(b *Block) { b.State.Sites[r] = set })
		}
	}
	for _, live := range [][]int{{regs}, {0, regs}, {regs + 1}, {1 << 62}, {-1}, {-1, 0}, {0, 0}, {1, 0}} {
		add(fmt.Sprint("Live is ", live), "fact", func(b *Block) { b.Live = live })
		add(fmt.Sprint("not Reached, Live is ", live), "fact", func(b *Block) { *b = Block{Live: live} })
	}
	return list
}

// ifSparse are what may be wrong with a block that is no cut point, if it is to be sparse.
func ifSparse(at string, regs int, block func(t *Table) *Block) []wrong {
	var list []wrong
	for _, b := range []Block{{State: having(make([][]int, regs)...)}, {Live: []int{0}}, {Live: []int{1}}, {State: having(make([][]int, regs)...), Live: []int{0, 1}}} {
		list = append(list, wrong{fmt.Sprint(at, ": no cut point, with ", b), at + " shape", func(m *ir.Module, t *Table) { *block(t) = b }})
	}
	return list
}

// allWrong are all, in the order in which the chapter gives them.
func allWrong(sparse bool) []wrong {
	list := inModule()
	for i, v := range notRight() {
		list = append(list, wrong{fmt.Sprint("cell 0, ", i), "0.0 fact", func(m *ir.Module, t *Table) { t.Cells[0] = v }})
	}
	for i, v := range notRight() {
		list = append(list, wrong{fmt.Sprint("cell 1, ", i), "0.1 fact", func(m *ir.Module, t *Table) { t.Cells[1] = v }})
	}
	m := two()
	isCut := [][]bool{{true, true, false, false}, {true, false}}
	for f, fn := range m.Funcs {
		at := fmt.Sprint("1.", f)
		list = append(list, inSum(at, fn.Arity, func(t *Table) *flow.Sum { return &t.Funcs[f].Sum })...)
		list = append(list,
			wrong{at + ": a block less", at + " shape", func(m *ir.Module, t *Table) { t.Funcs[f].Blocks = told().Funcs[f].Blocks[1:] }},
			wrong{at + ": a block more", at + " shape", func(m *ir.Module, t *Table) { t.Funcs[f].Blocks = append(t.Funcs[f].Blocks, Block{}) }},
			wrong{at + ": no blocks", at + " shape", func(m *ir.Module, t *Table) { t.Funcs[f].Blocks = nil }})
		for b := range fn.Blocks {
			block := func(t *Table) *Block { return &t.Funcs[f].Blocks[b] }
			list = append(list, inBlock(fmt.Sprint(at, ".", b), fn.Regs, block)...)
			if sparse && !isCut[f][b] {
				list = append(list, ifSparse(fmt.Sprint(at, ".", b), fn.Regs, block)...)
			}
		}
	}
	for i, im := range m.Imports {
		list = append(list, inSum(fmt.Sprint("2.", i), im.Arity, func(t *Table) *flow.Sum { return &t.Imports[i] })...)
	}
	return list
}

// P17.1: each error alone, and beside a later one: the first is told.
func TestCheckErrors(t *testing.T) {
	for _, sparse := range []bool{false, true} {
		list := allWrong(sparse)
		for i, first := range list {
			// The first one is that alone. What is later is done first, so that it can't take away what is ahead.
			for j := i; j < len(list); j++ {
				m, x := two(), told()
				if sparse {
					x = Sparse(m, x)
				}
				list[j].change(&m, &x)
				first.change(&m, &x)
				if e := Check(m, x, sparse); e == nil || fault.Text(e) != first.want {
					t.Fatalf("%s, beside %s: got %s, want %s", first.about, list[j].about, fault.Text(e), first.want)
				}
			}
		}
	}
}

// P17.1: of one part the error that is named first, whichever of its places is ahead.
func TestCheckOrderInAPart(t *testing.T) {
	bad := fact.Value{}
	for _, c := range []struct {
		about  string
		want   string
		sparse bool
		change func(t *Table)
	}{
		{"Args, then their count", "1.1 shape", false, func(t *Table) { t.Funcs[1].Sum.Args = []fact.Value{bad} }},
		{"Result, and Args' count", "1.1 shape", false, func(t *Table) { t.Funcs[1].Sum.Result, t.Funcs[1].Sum.Args = bad, nil }},
		{"Result, and the count of blocks", "1.1 fact", false, func(t *Table) { t.Funcs[1].Sum.Result, t.Funcs[1].Blocks = bad, nil }},
		{"a block, and the count of blocks", "1.1 shape", false, func(t *Table) {
			t.Funcs[1].Blocks[0].Live = []int{-1}
			t.Funcs[1].Blocks = t.Funcs[1].Blocks[:1]
		}},
		{"a Value, and the count of sets", "1.1.0 shape", false, func(t *Table) {
			s := &t.Funcs[1].Blocks[0].State
			s.Vals[0], s.Sites = bad, s.Sites[:2]
		}},
		{"Live, and the count of Values", "1.1.0 shape", false, func(t *Table) {
			b := &t.Funcs[1].Blocks[0]
			b.Live, b.State.Vals = []int{3}, b.State.Vals[:2]
		}},
		{"Live, and a block that is no cut point", "1.0.2 fact", true, func(t *Table) { t.Funcs[0].Blocks[2].Live = []int{2} }},
		{"a Value, and a block that is no cut point", "1.0.2 fact", true, func(t *Table) {
			t.Funcs[0].Blocks[2].State = state.State{Reached: true, Vals: []fact.Value{bad, bad}, Sites: make([][]int, 2)}
		}},
		{"counts, and a block that is no cut point", "1.0.2 shape", true, func(t *Table) { t.Funcs[0].Blocks[2].State.Reached = true }},
	} {
		x := told()
		if c.sparse {
			x = Sparse(two(), x)
		}
		c.change(&x)
		if e := Check(two(), x, c.sparse); fault.Text(e) != c.want {
			t.Errorf("%s: got %s, want %s", c.about, fault.Text(e), c.want)
		}
	}
}

// P17.1: what is whole isn't sparse, unless all blocks are cut points.
func TestCheckSparse(t *testing.T) {
	if e := Check(two(), told(), true); fault.Text(e) != "1.0.2 shape" {
		t.Error(fault.Text(e))
	}
	m := ir.Module{Funcs: []ir.Func{{Name: "f", Regs: 1, Blocks: []ir.Block{
		{End: ir.End{Op: ir.Branch, To: 0, Else: 1}}, {End: ir.End{Op: ir.Jump, To: 1}},
	}}}}
	wantRight(t, "all blocks are cut points", m, Any(m), true)
	// No way leads to block 1, but the one from itself: a cut point it is.
	m.Funcs[0].Blocks[0].End = ir.End{Op: ir.Return}
	wantRight(t, "a cut point without a way", m, Any(m), true)
	m.Funcs[0].Blocks[1].End = ir.End{Op: ir.Jump}
	if e := Check(m, Any(m), true); fault.Text(e) != "1.0.1 shape" {
		t.Error("no cut point, and no way:", fault.Text(e))
	}
}

// most is a module with as many sites as there can be: 24 functions of 8 registers, and of 12 blocks of 12 instructions that set one.
func most() ir.Module {
	var m ir.Module
	for range api.MaxCells {
		m.Cells = append(m.Cells, 1)
	}
	block := ir.Block{Insns: slices.Repeat([]ir.Insn{{Op: ir.Input}}, api.MaxInsns), End: ir.End{Op: ir.Return}}
	for f := range api.MaxFuncs {
		fn := ir.Func{Name: fmt.Sprint("f", f), Arity: api.MaxArgs, Regs: api.MaxRegs, Blocks: slices.Repeat([]ir.Block{block}, api.MaxBlocks)}
		m.Funcs = append(m.Funcs, fn)
	}
	return m
}

// P17.1: the last site is one, the next one is none.
func TestCheckOfTheMostSites(t *testing.T) {
	m := most()
	x := None(m)
	last := &x.Funcs[23].Blocks[11]
	last.State = having(make([][]int, 8)...)
	last.Live = []int{7}
	last.State.Sites[7] = []int{3647}
	wantRight(t, "the last site", m, x, false)
	last.State.Sites[7] = []int{3648}
	if e := Check(m, x, false); fault.Text(e) != "1.23.11 fact" {
		t.Error(fault.Text(e))
	}
	wantRight(t, "Any", m, Any(m), false)
}

// P17.1, P17.2: Sparse.
func TestSparse(t *testing.T) {
	want := told()
	want.Funcs[0].Blocks[2], want.Funcs[0].Blocks[3], want.Funcs[1].Blocks[1] = Block{}, Block{}, Block{}
	got := Sparse(two(), told())
	wantTable(t, "told", got, want)
	wantRight(t, "told", two(), got, true)
	wantTable(t, "once more", Sparse(two(), got), want)
	wantTable(t, "nothing", Sparse(ir.Module{}, Table{}), Table{})
	// A loop: its head is a cut point, what is in it isn't.
	loop := ir.Module{Funcs: []ir.Func{{Name: "f", Regs: 1, Blocks: []ir.Block{
		{End: ir.End{Op: ir.Branch, To: 1, Else: 2}}, {End: ir.End{Op: ir.Jump, To: 0}}, returning("", 0, 1).Blocks[0],
	}}}}
	want = Any(loop)
	want.Funcs[0].Blocks[1], want.Funcs[0].Blocks[2] = Block{}, Block{}
	wantTable(t, "a loop", Sparse(loop, Any(loop)), want)
	// One block that goes on to itself, far behind.
	loop.Funcs[0].Blocks[2].End = ir.End{Op: ir.Branch, To: 2, Else: 2}
	want = Any(loop)
	want.Funcs[0].Blocks[1] = Block{}
	wantTable(t, "a loop of one", Sparse(loop, Any(loop)), want)
}

// P17.1: Env's Sums are functions', then imports'.
func TestEnv(t *testing.T) {
	x := told()
	e := Env(two(), x)
	if !ir.Equal(e.Module, two()) || fmt.Sprint(e.Cells) != fmt.Sprint(x.Cells) {
		t.Error("module and cells:", e.Module, e.Cells)
	}
	want := []flow.Sum{x.Funcs[0].Sum, x.Funcs[1].Sum, x.Imports[0], x.Imports[1], x.Imports[2]}
	if fmt.Sprint(e.Sums) != fmt.Sprint(want) {
		t.Error("Sums:", e.Sums)
	}
	if !flow.Fits(e) {
		t.Error("it doesn't fit")
	}
	e = Env(ir.Module{}, Table{})
	if !flow.Fits(e) || len(e.Sums) != 0 || len(e.Cells) != 0 || !ir.Equal(e.Module, ir.Module{}) {
		t.Error("of nothing:", e)
	}
	m := ir.Module{Imports: []ir.Import{{Name: "h"}}}
	if e = Env(m, Any(m)); len(e.Sums) != 1 || !e.Sums[0].Called || !ir.Equal(e.Module, m) {
		t.Error("imports alone:", e)
	}
}

// P17.1: Any.
func TestAny(t *testing.T) {
	wantTable(t, "nothing", Any(ir.Module{}), Table{})
	v := fact.Any()
	all := []int{0, 1, 2, 3, 4, 5, 6, 7}
	mains := Block{State: state.State{Reached: true, Vals: []fact.Value{v, v}, Sites: [][]int{all, all}}, Live: []int{0, 1}}
	gs := Block{State: state.State{Reached: true, Vals: []fact.Value{v, v, v}, Sites: [][]int{all, all, all}}, Live: []int{0, 1, 2}}
	wantTable(t, "two", Any(two()), Table{
		Cells: []fact.Value{v, v},
		Funcs: []Func{
			{Sum: flow.Sum{Called: true, Returns: true, Result: v}, Blocks: []Block{mains, mains, mains, mains}},
			{Sum: flow.Sum{Called: true, Args: []fact.Value{v, v}, Returns: true, Result: v}, Blocks: []Block{gs, gs}},
		},
		Imports: []flow.Sum{
			{Called: true, Args: []fact.Value{v}, Returns: true, Result: v},
			{Called: true, Returns: true, Result: v},
			{Called: true, Args: []fact.Value{v, v}, Returns: true, Result: v},
		},
	})
	wantRight(t, "two", two(), Any(two()), false)
	wantTable(t, "cells alone", Any(ir.Module{Cells: []int64{3}}), Table{Cells: []fact.Value{v}})
	wantTable(t, "imports alone", Any(ir.Module{Imports: []ir.Import{{Name: "h"}}}), Table{Imports: []flow.Sum{{Called: true, Returns: true, Result: v}}})
	one := ir.Module{Funcs: []ir.Func{returning("f", 1, 1)}}
	wantTable(t, "a function alone", Any(one), Table{Funcs: []Func{{
		Sum:    flow.Sum{Called: true, Args: []fact.Value{v}, Returns: true, Result: v},
		Blocks: []Block{{State: state.State{Reached: true, Vals: []fact.Value{v}, Sites: [][]int{{0}}}, Live: []int{0}}},
	}}})
}

// P17.1: None.
func TestNone(t *testing.T) {
	wantTable(t, "nothing", None(ir.Module{}), Table{})
	wantTable(t, "two", None(two()), Table{
		Cells:   of(5, -1),
		Funcs:   []Func{{Blocks: make([]Block, 4)}, {Blocks: make([]Block, 2)}},
		Imports: make([]flow.Sum, 3),
	})
	wantRight(t, "two", two(), None(two()), false)
	wantRight(t, "two, sparse", two(), None(two()), true)
	wantTable(t, "cells alone", None(ir.Module{Cells: []int64{3, 0}}), Table{Cells: of(3, 0)})
	wantTable(t, "imports alone", None(ir.Module{Imports: []ir.Import{{Name: "h"}}}), Table{Imports: []flow.Sum{{}}})
}

// changes are what may be otherwise in told, one thing each; more: what is changed tells less than told, so that it has more.
var changes = []struct {
	about  string
	more   bool
	change func(t *Table)
}{
	{"a cell", true, func(t *Table) { t.Cells[1] = from(-1, 0) }},
	{"a cell's parity", true, func(t *Table) { t.Cells[1].Parity = 3 }},
	{"an argument", true, func(t *Table) { t.Funcs[1].Sum.Args[1] = from(4, 5) }},
	{"Called", true, func(t *Table) { t.Imports[1].Called = true }},
	{"a Result", true, func(t *Table) { t.Funcs[1].Sum.Result = from(-3, 2) }},
	{"Returns", true, func(t *Table) { t.Funcs[0].Sum.Returns, t.Funcs[0].Sum.Result = true, fact.Of(1) }},
	{"a State's Value", true, func(t *Table) { t.Funcs[0].Blocks[2].State.Vals[1] = from(1, 2) }},
	{"a State's sites", true, func(t *Table) { t.Funcs[0].Blocks[2].State.Sites[0] = []int{0} }},
	{"a State's last sites", true, func(t *Table) { t.Funcs[1].Blocks[1].State.Sites[2] = []int{5, 7} }},
	{"Reached", true, func(t *Table) { t.Funcs[0].Blocks[3].State = having(nil, nil) }},
	{"Live", true, func(t *Table) { t.Funcs[0].Blocks[2].Live = []int{1} }},
	{"Live of the last block", true, func(t *Table) { t.Funcs[1].Blocks[1].Live = []int{0, 2} }},
	{"an import's argument", true, func(t *Table) { t.Imports[2].Args[0] = from(1, 4) }},
	{"an import's Result", true, func(t *Table) { t.Imports[0].Result = from(8, 9) }},
	{"an import's Returns", true, func(t *Table) { t.Imports[2].Returns, t.Imports[2].Result = true, fact.Of(1) }},
	{"another cell", false, func(t *Table) { t.Cells[1] = fact.Of(1) }},
	{"another argument", false, func(t *Table) { t.Funcs[1].Sum.Args[0] = fact.Of(2) }},
	{"another Result", false, func(t *Table) { t.Imports[0].Result = fact.Of(9) }},
	{"another Value", false, func(t *Table) { t.Funcs[1].Blocks[0].State.Vals[2] = fact.Of(9) }},
	{"another site", false, func(t *Table) { t.Funcs[1].Blocks[0].State.Sites[0] = []int{3} }},
	{"another Live", false, func(t *Table) { t.Funcs[0].Blocks[0].Live = []int{0} }},
	{"a cell more", false, func(t *Table) { t.Cells = append(t.Cells, fact.Any()) }},
	{"a function more", false, func(t *Table) { t.Funcs = append(t.Funcs, Func{}) }},
	{"a block more", false, func(t *Table) { t.Funcs[1].Blocks = append(t.Funcs[1].Blocks, Block{}) }},
	{"an import more", false, func(t *Table) { t.Imports = append(t.Imports, flow.Sum{}) }},
	{"an argument more", false, func(t *Table) { t.Funcs[1].Sum.Args = append(t.Funcs[1].Sum.Args, fact.Any()) }},
	{"an import's argument more", false, func(t *Table) { t.Imports[0].Args = append(t.Imports[0].Args, fact.Any()) }},
	{"a register more", false, func(t *Table) {
		s := &t.Funcs[0].Blocks[1].State
		s.Vals, s.Sites = append(s.Vals, fact.Any()), append(s.Sites, []int{0})
	}},
	{"no cells", false, func(t *Table) { t.Cells = nil }},
	{"no functions", false, func(t *Table) { t.Funcs = nil }},
	{"no blocks", false, func(t *Table) { t.Funcs[0].Blocks = nil }},
	{"no imports", false, func(t *Table) { t.Imports = nil }},
}

// P17.1: Within and Equal, of Tables that differ in one thing.
func TestWithinAndEqual(t *testing.T) {
	same := told()
	if !Within(same, told()) || !Equal(same, told()) || !Within(Table{}, Table{}) || !Equal(Table{}, Table{}) {
		t.Error("the same")
	}
	for _, c := range changes {
		x := told()
		c.change(&x)
		if Equal(x, told()) || Equal(told(), x) || !Equal(x, Copy(x)) {
			t.Error("Equal:", c.about)
		}
		if Within(x, told()) || Within(told(), x) != c.more || !Within(x, Copy(x)) {
			t.Error("Within:", c.about)
		}
		if Within(Table{}, x) || Within(x, Table{}) || Equal(Table{}, x) || Equal(x, Table{}) {
			t.Error("the Table without anything:", c.about)
		}
	}
}

// P17.1: Within is of Tables that aren't in normal form, too: whether it is Called, and Returns, counts for itself.
func TestWithinOfAnySums(t *testing.T) {
	with := func(s flow.Sum) Table { return Table{Imports: []flow.Sum{s}} }
	args, v := of(1), fact.Of(2)
	for _, c := range []struct {
		about string
		a, b  flow.Sum
		want  bool
	}{
		{"Called, of the same Args", flow.Sum{Called: true, Args: args}, flow.Sum{Args: args}, false},
		{"the other way", flow.Sum{Args: args}, flow.Sum{Called: true, Args: args}, true},
		{"Returns, of the same Result", flow.Sum{Returns: true, Result: v}, flow.Sum{Result: v}, false},
		{"the other way round", flow.Sum{Result: v}, flow.Sum{Returns: true, Result: v}, true},
		{"fewer Args", flow.Sum{Called: true, Args: args}, flow.Sum{Called: true, Args: of(1, 2)}, false},
		{"more Args", flow.Sum{Called: true, Args: of(1, 2)}, flow.Sum{Called: true, Args: args}, false},
		{"Called, and another Result", flow.Sum{Called: true, Returns: true, Result: v}, flow.Sum{Called: true, Returns: true, Result: fact.Of(3)}, false},
		{"Called alone, and both", flow.Sum{Called: true}, flow.Sum{Called: true, Returns: true, Result: v}, true},
	} {
		if got := Within(with(c.a), with(c.b)); got != c.want {
			t.Errorf("%s: %v", c.about, got)
		}
		f, g := Table{Funcs: []Func{{Sum: c.a}}}, Table{Funcs: []Func{{Sum: c.b}}}
		if got := Within(f, g); got != c.want {
			t.Errorf("%s, of a function: %v", c.about, got)
		}
	}
}

// P17.1: nil and empty lists are one.
func TestEmptyLists(t *testing.T) {
	m := two()
	bare, empty := None(m), None(m)
	for f := range empty.Funcs {
		empty.Funcs[f].Sum.Args = []fact.Value{}
		for b := range empty.Funcs[f].Blocks {
			empty.Funcs[f].Blocks[b] = Block{State: state.State{Vals: []fact.Value{}, Sites: [][]int{}}, Live: []int{}}
		}
	}
	for i := range empty.Imports {
		empty.Imports[i].Args = []fact.Value{}
	}
	if !Equal(bare, empty) || !Equal(empty, bare) || !Within(bare, empty) || !Within(empty, bare) {
		t.Error("of None")
	}
	wantRight(t, "empty lists", m, empty, true)
	bare, empty = told(), told()
	bare.Funcs[0].Blocks[2].State.Sites[0] = nil
	empty.Funcs[0].Blocks[2].State.Sites[0] = []int{}
	if !Equal(bare, empty) || !Within(bare, empty) || !Within(empty, bare) {
		t.Error("of a set")
	}
	none := Table{Cells: []fact.Value{}, Funcs: []Func{}, Imports: []flow.Sum{}}
	if !Equal(none, Table{}) || !Equal(Table{}, none) || !Within(none, Table{}) || !Within(Table{}, none) {
		t.Error("of nothing")
	}
}

// P17.1: Copy and Equal are of any Tables, also of such as fit no module.
func TestCopyOfAnything(t *testing.T) {
	bad := told()
	bad.Cells[0] = fact.Value{Sign: 9}
	bad.Funcs[0].Sum = flow.Sum{Args: of(1), Result: fact.Of(2)}
	bad.Funcs[0].Blocks[0] = Block{State: state.State{Vals: of(1), Sites: [][]int{{7, 7}, nil, {-1}}}, Live: []int{9, 2}}
	bad.Funcs[1].Blocks[0].State = state.State{Reached: true, Vals: of(1, 2), Sites: [][]int{nil, {3}, {2, 1}}}
	bad.Funcs[1].Blocks[1].State = state.State{Reached: true}
	for about, x := range map[string]Table{"nothing": {}, "told": told(), "any": Any(two()), "none": None(two()), "bad": bad} {
		wantTable(t, about, Copy(x), x)
		if !Equal(Copy(x), x) {
			t.Error(about, "isn't Equal to its Copy")
		}
	}
	for about, change := range map[string]func(x *Table){
		"Vals of one that isn't Reached":  func(x *Table) { x.Funcs[0].Blocks[0].State.Vals[0] = fact.Of(2) },
		"Sites of one that isn't Reached": func(x *Table) { x.Funcs[0].Blocks[0].State.Sites[2] = []int{-2} },
		"Live":                            func(x *Table) { x.Funcs[0].Blocks[0].Live[1] = 3 },
		"Args of one that isn't Called":   func(x *Table) { x.Funcs[0].Sum.Args[0] = fact.Of(0) },
		"Result of one that doesn't":      func(x *Table) { x.Funcs[0].Sum.Result = fact.Value{} },
		"Returns, of the same Result":     func(x *Table) { x.Funcs[0].Sum.Returns = true },
		"Called, of the same Args":        func(x *Table) { x.Funcs[0].Sum.Called = true },
		"a set beyond the Values":         func(x *Table) { x.Funcs[1].Blocks[0].State.Sites[2] = []int{2} },
		"Reached":                         func(x *Table) { x.Funcs[1].Blocks[1].State.Reached = false },
		"a Value":                         func(x *Table) { x.Cells[0].Sign = 1 },
	} {
		x := Copy(bad)
		change(&x)
		if Equal(x, bad) || Equal(bad, x) {
			t.Error(about)
		}
	}
}
