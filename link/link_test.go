package link_test

import (
	"fmt"
	"math"
	"slices"
	"testing"

	"averment/fault"
	"averment/ir"
	"averment/link"
)

func fn(name string, arity, regs int, blocks ...ir.Block) ir.Func {
	return ir.Func{Name: name, Arity: arity, Regs: regs, Blocks: blocks}
}

func block(end ir.End, insns ...ir.Insn) ir.Block { return ir.Block{Insns: insns, End: end} }

func jump(to int) ir.End { return ir.End{Op: ir.Jump, To: to} }

func branch(a, to, other int) ir.End { return ir.End{Op: ir.Branch, A: a, To: to, Else: other} }

func back(a int) ir.End { return ir.End{Op: ir.Return, A: a} }

func number(d int, n int64) ir.Insn { return ir.Insn{Op: ir.Const, D: d, N: n} }

func input(d int) ir.Insn { return ir.Insn{Op: ir.Input, D: d} }

func output(a int) ir.Insn { return ir.Insn{Op: ir.Output, A: a} }

func load(d, cell int) ir.Insn { return ir.Insn{Op: ir.Load, D: d, B: cell} }

func store(a, cell int) ir.Insn { return ir.Insn{Op: ir.Store, A: a, B: cell} }

func call(d, f int, args ...int) ir.Insn { return ir.Insn{Op: ir.Call, D: d, B: f, Args: args} }

func two(op, d, a, b int) ir.Insn { return ir.Insn{Op: op, D: d, A: a, B: b} }

// idle is a function that does nothing.
func idle(name string, arity int) ir.Func { return fn(name, arity, 4, block(back(0))) }

// upper calls a function of its own (low 1), one of lower's (up 3), an import that both have (put 2) and one of its own (zeta 4).
func upper() ir.Module {
	return ir.Module{Cells: []int64{1, -2}, Funcs: []ir.Func{
		fn("main", 0, 3,
			block(branch(1, 1, 0), input(0), load(1, 1), store(1, 0), call(1, 3, 0), call(2, 1, 0, 1)),
			block(back(2), call(2, 2, 2), call(0, 4), call(1, 0), two(ir.Add, 2, 1, 0), output(2))),
		fn("low", 2, 3, block(back(0), load(2, 0), call(0, 4))),
	}, Imports: []ir.Import{{Name: "put", Arity: 1}, {Name: "up", Arity: 1}, {Name: "zeta"}}}
}

// lower likewise: its numbers are up 0, idle 1, alpha 2, low 3, put 4.
func lower() ir.Module {
	return ir.Module{Cells: []int64{7, math.MinInt64, 9}, Funcs: []ir.Func{
		fn("up", 1, 2,
			block(jump(1), load(1, 2), store(0, 0), call(1, 3, 0, 1), number(0, 2)),
			block(back(1), store(1, 1), call(1, 2, 1, 0), call(0, 4, 1), call(0, 0, 0), call(0, 1))),
		idle("idle", 0),
	}, Imports: []ir.Import{{Name: "alpha", Arity: 2}, {Name: "low", Arity: 2}, {Name: "put", Arity: 1}}}
}

// upperLower is the Link of both: main 0, low 1, up 2, idle 3, alpha 4, put 5, zeta 6.
func upperLower() ir.Module {
	return ir.Module{Cells: []int64{1, -2, 7, math.MinInt64, 9}, Funcs: []ir.Func{
		fn("main", 0, 3,
			block(branch(1, 1, 0), input(0), load(1, 1), store(1, 0), call(1, 2, 0), call(2, 1, 0, 1)),
			block(back(2), call(2, 5, 2), call(0, 6), call(1, 0), two(ir.Add, 2, 1, 0), output(2))),
		fn("low", 2, 3, block(back(0), load(2, 0), call(0, 6))),
		fn("up", 1, 2,
			block(jump(1), load(1, 4), store(0, 2), call(1, 1, 0, 1), number(0, 2)),
			block(back(1), store(1, 3), call(1, 4, 1, 0), call(0, 5, 1), call(0, 2, 0), call(0, 3))),
		idle("idle", 0),
	}, Imports: []ir.Import{{Name: "alpha", Arity: 2}, {Name: "put", Arity: 1}, {Name: "zeta"}}}
}

// lowerUpper is the Link the other way round: up 0, idle 1, main 2, low 3, alpha 4, put 5, zeta 6.
func lowerUpper() ir.Module {
	return ir.Module{Cells: []int64{7, math.MinInt64, 9, 1, -2}, Funcs: []ir.Func{
		fn("up", 1, 2,
			block(jump(1), load(1, 2), store(0, 0), call(1, 3, 0, 1), number(0, 2)),
			block(back(1), store(1, 1), call(1, 4, 1, 0), call(0, 5, 1), call(0, 0, 0), call(0, 1))),
		idle("idle", 0),
		fn("main", 0, 3,
			block(branch(1, 1, 0), input(0), load(1, 4), store(1, 3), call(1, 0, 0), call(2, 3, 0, 1)),
			block(back(2), call(2, 5, 2), call(0, 6), call(1, 2), two(ir.Add, 2, 1, 0), output(2))),
		fn("low", 2, 3, block(back(0), load(2, 3), call(0, 6))),
	}, Imports: []ir.Import{{Name: "alpha", Arity: 2}, {Name: "put", Arity: 1}, {Name: "zeta"}}}
}

// wantLink: that module, and it is well-formed.
func wantLink(t *testing.T, about string, a, b, want ir.Module) {
	t.Helper()
	got, e := link.Link(a, b)
	if e != nil || !ir.Equal(got, want) {
		t.Errorf("%s: got %v, %s, want %v", about, got, fault.Text(e), want)
	}
	if e := ir.Check(got); e != nil {
		t.Errorf("%s: not well-formed: %s", about, fault.Text(e))
	}
}

// wantError: that error, and nothing else.
func wantError(t *testing.T, about string, a, b ir.Module, want string) {
	t.Helper()
	m, e := link.Link(a, b)
	if fault.Text(e) != want || m.Cells != nil || m.Funcs != nil || m.Imports != nil {
		t.Errorf("%s: got %v, %s, want %s", about, m, fault.Text(e), want)
	}
}

// P22.1: cells, functions, imports that both have, that one has, that become functions of the other one, of both directions at once.
func TestLink(t *testing.T) {
	wantLink(t, "upper, lower", upper(), lower(), upperLower())
	wantLink(t, "lower, upper", lower(), upper(), lowerUpper())
}

// P22.2: with the module that has nothing a module stays as it is.
func TestNothing(t *testing.T) {
	for _, m := range []ir.Module{{}, {Cells: []int64{5}}, {Imports: []ir.Import{{Name: "g", Arity: 3}}}, {Funcs: []ir.Func{idle("f", 0)}}, upper(), lower(), upperLower()} {
		wantLink(t, "behind nothing", ir.Module{}, m, m)
		wantLink(t, "ahead of nothing", m, ir.Module{}, m)
		none := ir.Module{Cells: []int64{}, Funcs: []ir.Func{}, Imports: []ir.Import{}}
		wantLink(t, "behind empty lists", none, m, m)
		wantLink(t, "ahead of empty lists", m, none, m)
	}
}

// P22.1: imports rise by their names, byte by byte, each once, whichever has them.
func TestImportsRise(t *testing.T) {
	of := func(names ...string) ir.Module {
		var m ir.Module
		for _, name := range names {
			m.Imports = append(m.Imports, ir.Import{Name: name, Arity: len(name) % 5})
		}
		return m
	}
	for _, c := range [][3]ir.Module{
		{of("a", "c", "e"), of("b", "d", "f"), of("a", "b", "c", "d", "e", "f")},
		{of("b", "d", "f"), of("a", "c", "e"), of("a", "b", "c", "d", "e", "f")},
		{of("x", "y"), of("a", "b"), of("a", "b", "x", "y")},
		{of("a", "b"), of("x", "y"), of("a", "b", "x", "y")},
		{of("a", "m", "z"), of("a", "m", "z"), of("a", "m", "z")},
		{of("a", "m"), of("m", "z"), of("a", "m", "z")},
		{of("m"), of("a", "m", "z"), of("a", "m", "z")},
		{of("g10", "g9", "ga"), of("g", "g1", "g2", "gaa"), of("g", "g1", "g10", "g2", "g9", "ga", "gaa")},
		{of("g"), of(), of("g")},
		{of(), of("g", "h"), of("g", "h")},
	} {
		wantLink(t, "imports alone", c[0], c[1], c[2])
	}
}

// P22.1: an import of one that the other one has as a function goes away, of either side alone; calls are of that function.
func TestImportsThatGoAway(t *testing.T) {
	caller := ir.Module{Funcs: []ir.Func{fn("main", 0, 2, block(back(0), call(0, 1, 1, 0), call(1, 2)))},
		Imports: []ir.Import{{Name: "g", Arity: 2}, {Name: "h"}}}
	callee := ir.Module{Funcs: []ir.Func{idle("f", 0), idle("g", 2)}}
	wantLink(t, "of the first", caller, callee, ir.Module{
		Funcs:   []ir.Func{fn("main", 0, 2, block(back(0), call(0, 2, 1, 0), call(1, 3))), idle("f", 0), idle("g", 2)},
		Imports: []ir.Import{{Name: "h"}}})
	wantLink(t, "of the second", callee, caller, ir.Module{
		Funcs:   []ir.Func{idle("f", 0), idle("g", 2), fn("main", 0, 2, block(back(0), call(0, 1, 1, 0), call(1, 3)))},
		Imports: []ir.Import{{Name: "h"}}})
	callee.Funcs = append(callee.Funcs, idle("h", 0))
	wantLink(t, "all of them", caller, callee, ir.Module{
		Funcs: []ir.Func{fn("main", 0, 2, block(back(0), call(0, 2, 1, 0), call(1, 3))), idle("f", 0), idle("g", 2), idle("h", 0)}})
	// One that goes away though the other one has it, too, stands nowhere else.
	third := ir.Module{Imports: []ir.Import{{Name: "f"}, {Name: "g", Arity: 2}}}
	wantLink(t, "imports alone, behind", callee, third, callee)
	wantLink(t, "imports alone, ahead", third, callee, callee)
}

// pair is two modules without calls, so that numbers may change: upper's main 0, f 1, g 2, import a 3, import p 4; lower's up 0, p 1, q 2, import a 3, import f 4.
type pair struct{ a, b ir.Module }

func rightPair() pair {
	return pair{
		ir.Module{Cells: []int64{1}, Funcs: []ir.Func{idle("main", 0), idle("f", 2), idle("g", 1)}, Imports: []ir.Import{{Name: "a", Arity: 1}, {Name: "p", Arity: 3}}},
		ir.Module{Cells: []int64{2}, Funcs: []ir.Func{idle("up", 1), idle("p", 3), idle("q", 0)}, Imports: []ir.Import{{Name: "a", Arity: 1}, {Name: "f", Arity: 2}}},
	}
}

// more are so many imports, whose names are above all others and begin so.
func more(begin string, n int) []ir.Import {
	var all []ir.Import
	for i := range n {
		all = append(all, ir.Import{Name: fmt.Sprintf("%s%02d", begin, i)})
	}
	return all
}

// faults are what may be wrong with a pair, in the order in which it is told.
func faults() []struct {
	about, want string
	spoil       func(p *pair)
} {
	return []struct {
		about, want string
		spoil       func(p *pair)
	}{
		{"too many cells in a", "0 size", func(p *pair) { p.a.Cells = make([]int64, 17) }},
		{"no name in a", "0.1 name", func(p *pair) { p.a.Funcs[1].Name = "" }},
		{"an End in a", "0.2.0.0 register", func(p *pair) { p.a.Funcs[2].Blocks[0].End.A = 4 }},
		{"an import of a", "0.3 arity", func(p *pair) { p.a.Imports[0].Arity = 5 }},
		{"an import of a that a has", "0.4 symbol", func(p *pair) { p.a.Imports[1].Name = "main" }},
		{"too many imports in b", "1 size", func(p *pair) { p.b.Imports = append(p.b.Imports, more("x", 20)...) }},
		{"no block in b", "1.0 size", func(p *pair) { p.b.Funcs[0].Blocks = nil }},
		{"an instruction in b", "1.1.0.0 range", func(p *pair) { p.b.Funcs[1].Blocks[0].Insns = []ir.Insn{load(0, 16)} }},
		{"imports of b", "1.4 form", func(p *pair) { p.b.Imports[1].Name = "a" }},
		{"main in both", "0 twice", func(p *pair) { p.b.Funcs[0].Name = "main" }},
		{"g in both", "2 twice", func(p *pair) { p.b.Funcs[2].Name = "g" }},
		{"an import of both", "0.3 clash", func(p *pair) { p.a.Imports[0].Arity = 2 }},
		{"an import of a, a function of b", "0.4 clash", func(p *pair) { p.b.Funcs[1].Arity = 4 }},
		{"an import of b, a function of a", "1.4 clash", func(p *pair) { p.a.Funcs[1].Arity = 0 }},
		{"too many cells", "size", func(p *pair) { p.b.Cells = make([]int64, 16) }},
		{"too many imports", "size", func(p *pair) { p.a.Imports = append(p.a.Imports, more("x", 18)...) }},
	}
}

// P22.1: each error alone, and beside each later one: the first is told, at its place.
func TestErrors(t *testing.T) {
	right := rightPair()
	wantLink(t, "none", right.a, right.b, ir.Module{
		Cells:   []int64{1, 2},
		Funcs:   slices.Concat(right.a.Funcs, right.b.Funcs),
		Imports: []ir.Import{{Name: "a", Arity: 1}},
	})
	all := faults()
	for i, first := range all {
		p := rightPair()
		first.spoil(&p)
		wantError(t, first.about, p.a, p.b, first.want)
		for _, later := range all[i+1:] {
			p := rightPair()
			later.spoil(&p)
			first.spoil(&p)
			wantError(t, first.about+" and "+later.about, p.a, p.b, first.want)
		}
	}
}

// P22.1: ErrDup at the first function of b whose name a function of a has, whatever its place in a.
func TestTwice(t *testing.T) {
	of := func(names ...string) ir.Module {
		var m ir.Module
		for _, name := range names {
			m.Funcs = append(m.Funcs, idle(name, 0))
		}
		return m
	}
	for _, c := range []struct {
		a, b ir.Module
		want string
	}{
		{of("main"), of("main"), "0 twice"},
		{of("main"), of("f", "main"), "1 twice"},
		{of("f", "main"), of("main"), "0 twice"},
		{of("f", "g", "h"), of("x", "h", "g", "f"), "1 twice"},
		{of("f", "g", "h"), of("x", "y", "f", "h"), "2 twice"},
		{of("f", "g", "h"), of("f", "g", "h"), "0 twice"},
	} {
		wantError(t, "names", c.a, c.b, c.want)
	}
	// With another count of arguments they are no less one name.
	wantError(t, "arity", of("f"), ir.Module{Funcs: []ir.Func{idle("g", 1), idle("f", 2)}}, "1 twice")
	wantError(t, "itself", upper(), upper(), "0 twice")
	p := rightPair()
	p.b.Funcs[1].Name, p.b.Funcs[2].Name = "g", "main"
	wantError(t, "two of them", p.a, p.b, "1 twice")
	// A function and an import of one name are none.
	wantLink(t, "an import", of("f"), ir.Module{Imports: []ir.Import{{Name: "f"}}}, of("f"))
	wantLink(t, "an import", ir.Module{Imports: []ir.Import{{Name: "f"}}}, of("f"), of("f"))
}

// P22.1: ErrClash import by import of a, functions and imports of b alike; then import by import of b.
func TestClash(t *testing.T) {
	of := func(arities ...int) ir.Module {
		m := ir.Module{Funcs: []ir.Func{idle("z", 0)}}
		for i, n := range arities {
			m.Imports = append(m.Imports, ir.Import{Name: fmt.Sprint("g", i), Arity: n})
		}
		return m
	}
	having := func(arities ...int) ir.Module {
		m := ir.Module{}
		for i, n := range slices.Backward(arities) {
			m.Funcs = append(m.Funcs, idle(fmt.Sprint("g", i), n))
		}
		return m
	}
	imports := func(arities ...int) ir.Module { return ir.Module{Imports: of(arities...).Imports} }
	for _, c := range []struct {
		about string
		a, b  ir.Module
		want  string
	}{
		{"a function of b takes more", of(0, 1, 2), having(0, 1, 3), "0.3 clash"},
		{"a function of b takes less", of(0, 1, 2), having(0, 0, 2), "0.2 clash"},
		{"two of them", of(0, 1, 2), having(1, 0, 2), "0.1 clash"},
		{"an import of b takes more", of(0, 1, 2), imports(0, 1, 3), "0.3 clash"},
		{"an import of b takes less", of(0, 1, 2), imports(0, 0, 2), "0.2 clash"},
		{"an import of b, of a by itself", imports(0, 1, 2), of(0, 0, 2), "0.1 clash"},
		{"a function of a takes more", having(0, 1, 3), of(0, 1, 2), "1.3 clash"},
		{"a function of a takes less", having(0, 0, 2), of(0, 1, 2), "1.2 clash"},
		{"two of them", having(4, 0, 2), of(0, 1, 2), "1.1 clash"},
	} {
		wantError(t, c.about, c.a, c.b, c.want)
	}
	// An import of a that clashes with a function of b behind one that clashes with an import of b; both ahead of b's.
	a := ir.Module{Funcs: []ir.Func{idle("c", 1)}, Imports: []ir.Import{{Name: "d"}, {Name: "e"}, {Name: "f"}}}
	b := ir.Module{Funcs: []ir.Func{idle("f", 1)}, Imports: []ir.Import{{Name: "c"}, {Name: "d"}, {Name: "e", Arity: 1}}}
	wantError(t, "an import of a and an import of b", a, b, "0.2 clash")
	b.Imports[2].Arity = 0
	wantError(t, "an import of a and a function of b", a, b, "0.3 clash")
	b.Funcs[0].Arity = 0
	wantError(t, "an import of b and a function of a", a, b, "1.1 clash")
	a.Funcs[0].Arity = 0
	wantLink(t, "none", a, b, ir.Module{Funcs: []ir.Func{idle("c", 0), idle("f", 0)}, Imports: []ir.Import{{Name: "d"}, {Name: "e"}}})
}

// many has so many cells and functions, which begin so, and these imports.
func many(begin string, cells, funcs int, imports ...string) ir.Module {
	m := ir.Module{Cells: make([]int64, cells)}
	for f := range funcs {
		m.Funcs = append(m.Funcs, idle(fmt.Sprint(begin, f), 0))
	}
	for _, name := range imports {
		m.Imports = append(m.Imports, ir.Import{Name: name})
	}
	return m
}

// P22.1: ErrSize: 16 cells are allowed, 17 aren't; of functions and imports 24 are, as many as are left.
func TestSize(t *testing.T) {
	for _, c := range []struct {
		about string
		a, b  ir.Module
		fits  bool
	}{
		{"16 cells", many("f", 9, 1), many("g", 7, 1), true},
		{"17 cells", many("f", 9, 1), many("g", 8, 1), false},
		{"all cells of the first", many("f", 16, 1), many("g", 0, 1), true},
		{"all cells of the second", many("f", 0, 1), many("g", 16, 1), true},
		{"one cell too many", many("f", 16, 0), many("g", 1, 0), false},
		{"24 functions", many("f", 0, 12), many("g", 0, 12), true},
		{"25 functions", many("f", 0, 12), many("g", 0, 13), false},
		{"all functions of the first", many("f", 0, 24), many("g", 1, 0), true},
		{"all functions of the second", many("f", 1, 0), many("g", 0, 24), true},
		{"24 with imports", many("f", 0, 12, "x", "y"), many("g", 0, 9, "z"), true},
		{"25 with imports", many("f", 0, 12, "x", "y"), many("g", 0, 10, "z"), false},
		{"24 with one that both have", many("f", 0, 12, "x", "y"), many("g", 0, 10, "x"), true},
		{"25 with one that both have", many("f", 0, 12, "x", "y"), many("g", 0, 11, "x"), false},
		{"24 without what goes away of the first", many("f", 0, 12, "g3", "g7"), many("g", 0, 12), true},
		{"24 without what goes away of the second", many("f", 0, 12), many("g", 0, 12, "f0", "f11"), true},
		{"24 without what goes away of both", many("f", 0, 12, "g3", "g7"), many("g", 0, 12, "f0", "f11"), true},
		{"25 with one that stays", many("f", 0, 12, "g3", "g9x"), many("g", 0, 12, "f0"), false},
		{"24 with one that stays", many("f", 0, 12, "g3", "x"), many("g", 0, 11, "f0", "x"), true},
		{"48", many("f", 0, 24), many("g", 0, 24), false},
	} {
		m, e := link.Link(c.a, c.b)
		switch {
		case !c.fits:
			wantError(t, c.about, c.a, c.b, "size")
		case e != nil || ir.Check(m) != nil:
			t.Error(c.about, fault.Text(e), fault.Text(ir.Check(m)))
		}
	}
}

// P22.1: the numbers that functions, imports and cells have in Link, and -1 for all others.
func TestNumbers(t *testing.T) {
	for _, c := range []struct {
		about        string
		a, b         ir.Module
		first, other []int
	}{
		{"upper, lower", upper(), lower(), []int{0, 1, 5, 2, 6}, []int{2, 3, 4, 1, 5}},
		{"lower, upper", lower(), upper(), []int{0, 1, 4, 3, 5}, []int{2, 3, 5, 0, 6}},
		{"upper, nothing", upper(), ir.Module{}, []int{0, 1, 2, 3, 4}, nil},
		{"nothing, upper", ir.Module{}, upper(), nil, []int{0, 1, 2, 3, 4}},
		{"nothing", ir.Module{}, ir.Module{}, nil, nil},
	} {
		for n := -3; n < 30; n++ {
			wantNumber(t, fmt.Sprint(c.about, ", function ", n), link.Func(c.a, c.b, false, n), at(c.first, n))
			wantNumber(t, fmt.Sprint(c.about, ", function of the second ", n), link.Func(c.a, c.b, true, n), at(c.other, n))
			wantNumber(t, fmt.Sprint(c.about, ", cell ", n), link.Cell(c.a, c.b, false, n), at(from(0, len(c.a.Cells)), n))
			wantNumber(t, fmt.Sprint(c.about, ", cell of the second ", n), link.Cell(c.a, c.b, true, n), at(from(len(c.a.Cells), len(c.b.Cells)), n))
		}
		for _, n := range []int{math.MinInt, math.MaxInt, -1 << 32, 1 << 32} {
			for _, second := range []bool{false, true} {
				wantNumber(t, fmt.Sprint(c.about, ", ", n), link.Func(c.a, c.b, second, n), -1)
				wantNumber(t, fmt.Sprint(c.about, ", cell ", n), link.Cell(c.a, c.b, second, n), -1)
			}
		}
	}
}

func wantNumber(t *testing.T, about string, got, want int) {
	t.Helper()
	if got != want {
		t.Errorf("%s: got %d, want %d", about, got, want)
	}
}

// from are n numbers from first on.
func from(first, n int) []int {
	var all []int
	for i := range n {
		all = append(all, first+i)
	}
	return all
}

// at is element i of a list: -1, if there is none.
func at(list []int, i int) int {
	if i < 0 || i >= len(list) {
		return -1
	}
	return list[i]
}

// P22.1: where there is no Link nothing has a number in it.
func TestNumbersWithoutLink(t *testing.T) {
	for _, c := range faults() {
		p := rightPair()
		c.spoil(&p)
		for n := -2; n < 30; n++ {
			for _, second := range []bool{false, true} {
				wantNumber(t, c.about, link.Func(p.a, p.b, second, n), -1)
				wantNumber(t, c.about, link.Cell(p.a, p.b, second, n), -1)
			}
		}
	}
	p := rightPair()
	for n, want := range []int{0, 1, 2, 6, 4} {
		wantNumber(t, "all is right", link.Func(p.a, p.b, false, n), want)
	}
	for n, want := range []int{3, 4, 5, 6, 1} {
		wantNumber(t, "all is right, of the second", link.Func(p.a, p.b, true, n), want)
	}
}
