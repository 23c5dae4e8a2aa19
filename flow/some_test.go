package flow

import (
	"fmt"
	"math"
	"math/rand"
	"testing"

	"averment/fact"
	"averment/ir"
	"averment/known"
	"averment/span"
	"averment/state"
)

// edgeNumbers are numbers at which reckoning may go wrong.
var edgeNumbers = []int64{
	math.MinInt64, math.MinInt64 + 1, -1 << 32, -7, -2, -1, 0, 1, 2, 7, 1 << 31, 1 << 62, math.MaxInt64 - 1, math.MaxInt64,
}

func someNumber(source *rand.Rand) int64 {
	if source.Intn(4) == 0 {
		return edgeNumbers[source.Intn(len(edgeNumbers))]
	}
	return int64(source.Intn(7) - 3)
}

func someNumbers(source *rand.Rand, n int) []int64 {
	var all []int64
	for range n {
		all = append(all, someNumber(source))
	}
	return all
}

// someModule is a well-formed module by chance, with at most so many imports.
func someModule(t *testing.T, source *rand.Rand, imports int) ir.Module {
	t.Helper()
	var m ir.Module
	for range 1 + source.Intn(3) {
		m.Cells = append(m.Cells, someNumber(source))
	}
	for f := range 1 + source.Intn(3) {
		arity := source.Intn(5)
		m.Funcs = append(m.Funcs, ir.Func{Name: fmt.Sprint("f", f), Arity: arity, Regs: max(1, arity) + source.Intn(4)})
	}
	for i := range source.Intn(imports + 1) {
		m.Imports = append(m.Imports, ir.Import{Name: fmt.Sprint("g", i), Arity: source.Intn(5)})
	}
	for f := range m.Funcs {
		n := 1 + source.Intn(4)
		for range n {
			m.Funcs[f].Blocks = append(m.Funcs[f].Blocks, someBlock(source, m, m.Funcs[f], n))
		}
	}
	if e := ir.Check(m); e != nil {
		t.Fatal(e)
	}
	return m
}

// someBlock is a block of a function with so many blocks.
func someBlock(source *rand.Rand, m ir.Module, f ir.Func, blocks int) ir.Block {
	var b ir.Block
	for range source.Intn(6) {
		b.Insns = append(b.Insns, someInsn(source, m, f))
	}
	switch b.End.Op = 1 + source.Intn(3); b.End.Op {
	case ir.Jump:
		b.End.To = source.Intn(blocks)
	case ir.Branch:
		b.End = ir.End{Op: ir.Branch, A: source.Intn(f.Regs), To: source.Intn(blocks), Else: source.Intn(blocks)}
	default:
		b.End.A = source.Intn(f.Regs)
	}
	return b
}

func someInsn(source *rand.Rand, m ir.Module, f ir.Func) ir.Insn {
	x := ir.Insn{Op: 1 + source.Intn(17)}
	if _, sets := ir.Sets(x); sets {
		x.D = source.Intn(f.Regs)
	}
	switch {
	case x.Op == ir.Const:
		x.N = someNumber(source)
	case x.Op == ir.Load || x.Op == ir.Store:
		x.B = source.Intn(len(m.Cells))
	case x.Op == ir.Call:
		x.B = source.Intn(len(m.Funcs) + len(m.Imports))
		for range ir.Arity(m, x.B) {
			x.Args = append(x.Args, source.Intn(f.Regs))
		}
	case x.Op >= ir.Add && x.Op <= ir.Same:
		x.B = source.Intn(f.Regs)
	}
	if x.Op >= ir.Move && x.Op <= ir.Same || x.Op == ir.Store || x.Op == ir.Output {
		x.A = source.Intn(f.Regs)
	}
	return x
}

// around is a Value that has n, and by chance more.
func around(source *rand.Rand, n int64) fact.Value {
	v := fact.Of(n)
	if source.Intn(3) == 0 {
		return v
	}
	v.Sign |= source.Intn(8)
	v.Parity |= source.Intn(4)
	v.Known = known.Any()
	for range source.Intn(3) {
		v.Span = span.Join(v.Span, span.Of(someNumber(source)))
	}
	return v
}

// arounds are Values that have numbers, and by chance more.
func arounds(source *rand.Rand, numbers []int64) []fact.Value {
	var all []fact.Value
	for _, n := range numbers {
		all = append(all, around(source, n))
	}
	return all
}

// someValue is Right, also such as no number has.
func someValue(source *rand.Rand) fact.Value {
	v := around(source, someNumber(source))
	if source.Intn(4) == 0 {
		v.Sign = 1 + source.Intn(7)
	}
	return v
}

func someValues(source *rand.Rand, n int) []fact.Value {
	var all []fact.Value
	for range n {
		all = append(all, someValue(source))
	}
	return all
}

// someSum is one of a function with so many arguments.
func someSum(source *rand.Rand, arity int) Sum {
	var s Sum
	if source.Intn(3) > 0 {
		s.Called, s.Args = true, someValues(source, arity)
	}
	if source.Intn(3) > 0 {
		s.Returns, s.Result = true, someValue(source)
	}
	return s
}

// someEnv fits m; its cells have what they are told to have now.
func someEnv(t *testing.T, source *rand.Rand, m ir.Module, cells []int64) Env {
	t.Helper()
	e := Env{Module: m, Cells: arounds(source, cells)}
	for f := range len(m.Funcs) + len(m.Imports) {
		e.Sums = append(e.Sums, someSum(source, ir.Arity(m, f)))
	}
	if !Fits(e) {
		t.Fatal("it doesn't fit", e)
	}
	return e
}

// stateOf is a State that has registers' numbers and sites, and by chance more.
func stateOf(source *rand.Rand, regs []int64, last []int, sites int) state.State {
	s := state.State{Reached: true, Vals: arounds(source, regs)}
	for _, site := range last {
		var set []int
		for x := range sites {
			if x == site || source.Intn(4) == 0 {
				set = append(set, x)
			}
		}
		s.Sites = append(s.Sites, set)
	}
	return s
}

// someState is one of function f, now and then such as no frame is in.
func someState(source *rand.Rand, m ir.Module, f int) state.State {
	if source.Intn(12) == 0 {
		return state.None()
	}
	regs := m.Funcs[f].Regs
	last := make([]int, regs)
	s := stateOf(source, make([]int64, regs), last, ir.Sites(m))
	s.Vals = someValues(source, regs)
	return s
}
