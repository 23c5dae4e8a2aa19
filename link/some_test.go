package link_test

import (
	"fmt"
	"math"
	"math/rand"
	"slices"
	"sort"
	"testing"

	"averment/fault"
	"averment/ir"
)

// edgeNumbers are numbers at which reckoning may go wrong.
var edgeNumbers = []int64{math.MinInt64, math.MinInt64 + 1, -1 << 32, -7, 7, 1 << 31, math.MaxInt64 - 1, math.MaxInt64}

// someNumber is often 0: so Branches go both ways.
func someNumber(source *rand.Rand) int64 {
	if source.Intn(5) == 0 {
		return edgeNumbers[source.Intn(len(edgeNumbers))]
	}
	return int64(source.Intn(7) - 3)
}

func someNumbers(source *rand.Rand, n int) []int64 {
	var all []int64
	for range n {
		all = append(all, someNumber(source))
	}
	return all
}

// names are those of all functions; how many arguments each takes goes by its place.
var names = []string{"main", "b", "a9", "zz", "g10", "g9", "a", "m", "c", "ga", "d0", "y"}

// someArity is that of a name, now and then another one, so that it clashes.
func someArity(source *rand.Rand, name string, wrong bool) int {
	if wrong && source.Intn(40) == 0 {
		return source.Intn(5)
	}
	return slices.Index(names, name) % 5
}

// someModules are so many well-formed modules, that have functions for one another; wrong: now and then two of them have one name, or one name takes different counts of arguments, or there is too much in all.
func someModules(t *testing.T, source *rand.Rand, n int, wrong bool) []ir.Module {
	t.Helper()
	own := make([][]string, n)
	for _, i := range source.Perm(len(names)) {
		owner := source.Intn(n + 1)
		if owner < n {
			own[owner] = append(own[owner], names[i])
		}
		if again := source.Intn(n); wrong && owner < n && again != owner && source.Intn(60) == 0 {
			own[again] = append(own[again], names[i])
		}
	}
	var all []ir.Module
	for i := range n {
		m := someModule(source, own[i], wrong)
		if e := ir.Check(m); e != nil {
			t.Fatal(fault.Text(e), m)
		}
		all = append(all, m)
	}
	return all
}

// someModule has functions of these names, and imports some others.
func someModule(source *rand.Rand, own []string, wrong bool) ir.Module {
	m := ir.Module{Cells: someNumbers(source, source.Intn(6))}
	if wrong && source.Intn(20) == 0 {
		m.Cells = someNumbers(source, 10+source.Intn(7))
	}
	for _, name := range own {
		arity := someArity(source, name, wrong)
		m.Funcs = append(m.Funcs, ir.Func{Name: name, Arity: arity, Regs: max(1, arity) + source.Intn(4)})
	}
	if wrong && source.Intn(20) == 0 {
		for i := range 4 + source.Intn(6) {
			m.Funcs = append(m.Funcs, idle(fmt.Sprint("x", source.Intn(99), "x", i), source.Intn(5)))
		}
	}
	for _, name := range names {
		if source.Intn(3) == 0 && !slices.Contains(own, name) {
			m.Imports = append(m.Imports, ir.Import{Name: name, Arity: someArity(source, name, wrong)})
		}
	}
	sort.Slice(m.Imports, func(i, j int) bool { return m.Imports[i].Name < m.Imports[j].Name })
	for f := range own {
		n := 1 + source.Intn(6)
		for range n {
			m.Funcs[f].Blocks = append(m.Funcs[f].Blocks, someBlock(source, m, m.Funcs[f].Regs, n))
		}
	}
	return m
}

// someBlock is a block of a function with so many registers and blocks.
func someBlock(source *rand.Rand, m ir.Module, regs, blocks int) ir.Block {
	var b ir.Block
	for range source.Intn(6) {
		b.Insns = append(b.Insns, someInsn(source, m, regs))
	}
	switch source.Intn(4) {
	case 0:
		b.End = jump(source.Intn(blocks))
	case 1:
		b.End = back(source.Intn(regs))
	default:
		b.End = branch(source.Intn(regs), source.Intn(blocks), source.Intn(blocks))
	}
	return b
}

// someInsn is often one whose number changes.
func someInsn(source *rand.Rand, m ir.Module, regs int) ir.Insn {
	d, a, b := source.Intn(regs), source.Intn(regs), source.Intn(regs)
	kind := source.Intn(9)
	switch {
	case kind == 0:
		return number(d, someNumber(source))
	case kind == 1:
		return input(d)
	case kind == 2:
		return output(a)
	case kind == 3 && len(m.Cells) > 0:
		return load(d, source.Intn(len(m.Cells)))
	case kind == 4 && len(m.Cells) > 0:
		return store(a, source.Intn(len(m.Cells)))
	case kind == 5 || kind == 6:
		x := call(d, source.Intn(len(m.Funcs)+len(m.Imports)))
		for range ir.Arity(m, x.B) {
			x.Args = append(x.Args, source.Intn(regs))
		}
		return x
	case kind == 7:
		return ir.Insn{Op: ir.Move + source.Intn(2), D: d, A: a}
	}
	return two(ir.Add+source.Intn(9), d, a, b)
}
