package text_test

import (
	"fmt"
	"math"
	"math/rand"
	"slices"
	"sort"
	"testing"

	"averment/fact"
	"averment/fault"
	"averment/flow"
	"averment/ir"
	"averment/known"
	"averment/solve"
	"averment/span"
	"averment/table"
)

// edgeNumbers are numbers that may be written wrong.
var edgeNumbers = []int64{math.MinInt64, math.MinInt64 + 1, -10, -9, -1, 0, 1, 9, 10, 100, math.MaxInt64 - 1, math.MaxInt64}

func someNumber(source *rand.Rand) int64 {
	if source.Intn(3) == 0 {
		return edgeNumbers[source.Intn(len(edgeNumbers))]
	}
	return int64(source.Intn(7) - 3)
}

// someValue is any that is Right.
func someValue(source *rand.Rand) fact.Value {
	v := fact.Value{Sign: 1 + source.Intn(7), Parity: 1 + source.Intn(3)}
	if source.Intn(2) == 0 {
		v.Known = known.Of(someNumber(source))
	}
	a, b := someNumber(source), someNumber(source)
	v.Span = span.Span{Lo: min(a, b), Hi: max(a, b)}
	return v
}

// names are those of all functions, words of lines among them; how many arguments each takes goes by its place.
var names = []string{"main", "f", "call", "block", "cells", "func", "import", "z9", "a23456789012", "add", "n0", "n1"}

// someModule is a well-formed one.
func someModule(t *testing.T, source *rand.Rand) ir.Module {
	t.Helper()
	var m ir.Module
	for range source.Intn(4) {
		m.Cells = append(m.Cells, someNumber(source))
	}
	for i, name := range source.Perm(len(names))[:source.Intn(6)] {
		arity := name % 5
		if i < 3 {
			m.Funcs = append(m.Funcs, ir.Func{Name: names[name], Arity: arity, Regs: max(1, arity) + source.Intn(4)})
		} else {
			m.Imports = append(m.Imports, ir.Import{Name: names[name], Arity: arity})
		}
	}
	sort.Slice(m.Imports, func(i, j int) bool { return m.Imports[i].Name < m.Imports[j].Name })
	for f := range m.Funcs {
		n := 1 + source.Intn(4)
		for range n {
			m.Funcs[f].Blocks = append(m.Funcs[f].Blocks, someBlock(source, m, m.Funcs[f].Regs, n))
		}
	}
	if e := ir.Check(m); e != nil {
		t.Fatal(fault.Text(e), m)
	}
	return m
}

// someBlock is one of n of a function with so many registers.
func someBlock(source *rand.Rand, m ir.Module, regs, n int) ir.Block {
	var b ir.Block
	for range source.Intn(6) {
		b.Insns = append(b.Insns, someInsn(source, m, regs))
	}
	reg, to, other := source.Intn(regs), source.Intn(n), source.Intn(n)
	switch source.Intn(3) {
	case 0:
		b.End = ir.End{Op: ir.Jump, To: to}
	case 1:
		b.End = ir.End{Op: ir.Branch, A: reg, To: to, Else: other}
	default:
		b.End = ir.End{Op: ir.Return, A: reg}
	}
	return b
}

func someInsn(source *rand.Rand, m ir.Module, regs int) ir.Insn {
	d, a, b := source.Intn(regs), source.Intn(regs), source.Intn(regs)
	switch op := ir.Const + source.Intn(ir.Call); {
	case op == ir.Move || op == ir.Neg:
		return ir.Insn{Op: op, D: d, A: a}
	case op >= ir.Add && op <= ir.Same:
		return ir.Insn{Op: op, D: d, A: a, B: b}
	case op == ir.Load && len(m.Cells) > 0:
		return ir.Insn{Op: op, D: d, B: source.Intn(len(m.Cells))}
	case op == ir.Store && len(m.Cells) > 0:
		return ir.Insn{Op: op, A: a, B: source.Intn(len(m.Cells))}
	case op == ir.Input:
		return ir.Insn{Op: op, D: d}
	case op == ir.Output:
		return ir.Insn{Op: op, A: a}
	case op == ir.Call:
		x := ir.Insn{Op: op, D: d, B: source.Intn(len(m.Funcs) + len(m.Imports))}
		for range ir.Arity(m, x.B) {
			x.Args = append(x.Args, source.Intn(regs))
		}
		return x
	}
	return ir.Insn{Op: ir.Const, D: d, N: someNumber(source)}
}

// someTable is one in normal form, whether it is so or not.
func someTable(t *testing.T, source *rand.Rand, m ir.Module) table.Table {
	t.Helper()
	var x table.Table
	switch source.Intn(4) {
	case 0:
		x = table.Any(m)
	case 1:
		x = table.None(m)
	default:
		var roots []int
		for f := range m.Funcs {
			if source.Intn(2) == 0 {
				roots = append(roots, f)
			}
		}
		found, _, e := solve.Solve(m, roots, solve.Bound(m))
		if e != nil {
			t.Fatal(fault.Text(e), m)
		}
		x = found
	}
	if source.Intn(3) == 0 {
		x = table.Sparse(m, x)
	}
	otherwise(source, m, &x)
	if e := table.Check(m, x, false); e != nil {
		t.Fatal(fault.Text(e), m, x)
	}
	return x
}

// otherwise tells something else here and there.
func otherwise(source *rand.Rand, m ir.Module, x *table.Table) {
	for c := range x.Cells {
		if source.Intn(2) == 0 {
			x.Cells[c] = someValue(source)
		}
	}
	for f := range x.Funcs {
		if source.Intn(3) == 0 {
			x.Funcs[f].Sum = someSum(source, m.Funcs[f].Arity)
		}
		for b := range x.Funcs[f].Blocks {
			block := &x.Funcs[f].Blocks[b]
			for r := range block.State.Vals {
				if source.Intn(3) == 0 {
					block.State.Vals[r] = someValue(source)
					block.State.Sites[r] = someSet(source, ir.Sites(m))
				}
			}
			if source.Intn(3) == 0 {
				block.Live = someSet(source, m.Funcs[f].Regs)
			}
		}
	}
	for i := range x.Imports {
		if source.Intn(2) == 0 {
			x.Imports[i] = someSum(source, m.Imports[i].Arity)
		}
	}
}

func someSum(source *rand.Rand, arity int) flow.Sum {
	var s flow.Sum
	if source.Intn(2) == 0 {
		s.Called = true
		for range arity {
			s.Args = append(s.Args, someValue(source))
		}
	}
	if source.Intn(2) == 0 {
		s.Returns, s.Result = true, someValue(source)
	}
	return s
}

// someSet is a few numbers below n.
func someSet(source *rand.Rand, n int) []int {
	var set []int
	for range source.Intn(4) {
		set = append(set, source.Intn(n))
	}
	slices.Sort(set)
	return slices.Compact(set)
}

// some goes through modules by chance.
func some(t *testing.T, seed int64, times int, each func(source *rand.Rand, m ir.Module)) {
	t.Helper()
	source := rand.New(rand.NewSource(seed))
	for range times {
		each(source, someModule(t, source))
	}
}

// largest stands at every limit.
func largest() ir.Module {
	m := ir.Module{Imports: []ir.Import{{Name: "z23456789012", Arity: 4}}}
	for range 16 {
		m.Cells = append(m.Cells, math.MinInt64)
	}
	block := ir.Block{End: ir.End{Op: ir.Branch, A: 7, To: 11, Else: 10}}
	for range 12 {
		block.Insns = append(block.Insns, ir.Insn{Op: ir.Call, D: 7, B: 23, Args: []int{7, 7, 7, 7}})
	}
	block.Insns[11] = ir.Insn{Op: ir.Const, D: 7, N: math.MinInt64}
	for f := range 23 {
		fn := ir.Func{Name: fmt.Sprintf("abcdefghij%02d", f), Arity: 4, Regs: 8}
		for range 12 {
			fn.Blocks = append(fn.Blocks, block)
		}
		m.Funcs = append(m.Funcs, fn)
	}
	return ir.Copy(m)
}
