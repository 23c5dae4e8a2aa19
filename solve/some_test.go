package solve

import (
	"fmt"
	"math"
	"math/rand"
	"testing"

	"averment/fault"
	"averment/ir"
)

// edgeNumbers are numbers at which reckoning may go wrong.
var edgeNumbers = []int64{math.MinInt64, math.MinInt64 + 1, -1 << 32, -7, 7, 1 << 31, math.MaxInt64 - 1, math.MaxInt64}

// someNumber is often 0: so Branches go both ways.
func someNumber(source *rand.Rand) int64 {
	if source.Intn(5) == 0 {
		return edgeNumbers[source.Intn(len(edgeNumbers))]
	}
	return int64(source.Intn(7) - 3)
}

func someNumbers(source *rand.Rand, n int) []int64 {
	var all []int64
	for range n {
		all = append(all, someNumber(source))
	}
	return all
}

// someModule is a well-formed module by chance, with at most so many imports; it often begins with main.
func someModule(t *testing.T, source *rand.Rand, imports int) ir.Module {
	t.Helper()
	m := ir.Module{Cells: someNumbers(source, 1+source.Intn(3))}
	for f := range 1 + source.Intn(5) {
		arity := source.Intn(5)
		m.Funcs = append(m.Funcs, ir.Func{Name: fmt.Sprint("f", f), Arity: arity, Regs: max(1, arity) + source.Intn(4)})
	}
	if source.Intn(4) > 0 {
		main := &m.Funcs[source.Intn(len(m.Funcs))]
		main.Name, main.Arity = "main", 0
	}
	for i := range source.Intn(imports + 1) {
		m.Imports = append(m.Imports, ir.Import{Name: fmt.Sprint("g", i), Arity: source.Intn(5)})
	}
	for f := range m.Funcs {
		n := 1 + source.Intn(8)
		for range n {
			m.Funcs[f].Blocks = append(m.Funcs[f].Blocks, someBlock(source, m, m.Funcs[f].Regs, n))
		}
	}
	if e := ir.Check(m); e != nil {
		t.Fatal(fault.Text(e))
	}
	return m
}

// someBlock is a block of a function with so many registers and blocks.
func someBlock(source *rand.Rand, m ir.Module, regs, blocks int) ir.Block {
	var b ir.Block
	for range source.Intn(6) {
		b.Insns = append(b.Insns, someInsn(source, m, regs))
	}
	switch source.Intn(4) {
	case 0:
		b.End = jump(source.Intn(blocks))
	case 1:
		b.End = back(source.Intn(regs))
	default:
		b.End = branch(source.Intn(regs), source.Intn(blocks), source.Intn(blocks))
	}
	return b
}

func someInsn(source *rand.Rand, m ir.Module, regs int) ir.Insn {
	x := ir.Insn{Op: 1 + source.Intn(17)}
	// Registers are often 0 for sure, so that nobody would come behind most of these.
	if (x.Op == ir.Div || x.Op == ir.Rem) && source.Intn(3) > 0 {
		x.Op = ir.Add
	}
	if _, sets := ir.Sets(x); sets {
		x.D = source.Intn(regs)
	}
	switch {
	case x.Op == ir.Const:
		x.N = someNumber(source)
	case x.Op == ir.Load || x.Op == ir.Store:
		x.B = source.Intn(len(m.Cells))
	case x.Op == ir.Call:
		x.B = source.Intn(len(m.Funcs) + len(m.Imports))
		for range ir.Arity(m, x.B) {
			x.Args = append(x.Args, source.Intn(regs))
		}
	case x.Op >= ir.Add && x.Op <= ir.Same:
		x.B = source.Intn(regs)
	}
	if x.Op >= ir.Move && x.Op <= ir.Same || x.Op == ir.Store || x.Op == ir.Output {
		x.A = source.Intn(regs)
	}
	return x
}

// someRoots are functions of m, often none, now and then one twice.
func someRoots(source *rand.Rand, m ir.Module) []int {
	var roots []int
	for range max(0, source.Intn(5)-1) {
		roots = append(roots, source.Intn(len(m.Funcs)))
	}
	return roots
}

// some goes through modules and roots by chance.
func some(t *testing.T, seed int64, n, imports int, each func(source *rand.Rand, m ir.Module, roots []int)) {
	t.Helper()
	source := rand.New(rand.NewSource(seed))
	for range n {
		m := someModule(t, source, imports)
		each(source, m, someRoots(source, m))
	}
}
