package solve

import (
	"fmt"
	"slices"
	"testing"

	"averment/api"
	"averment/edges"
	"averment/fault"
	"averment/ir"
	"averment/table"
)

// most is a module with as much as there can be: 3648 sites.
func most() ir.Module {
	m := ir.Module{Cells: make([]int64, api.MaxCells)}
	end := branch(0, 11, 0)
	insns := slices.Repeat([]ir.Insn{input(0)}, api.MaxInsns-1)
	for f := range api.MaxFuncs {
		one := block(end, append(slices.Clone(insns), call(7, (f+1)%api.MaxFuncs, 0, 1, 2, 3))...)
		m.Funcs = append(m.Funcs, fn(fmt.Sprint("f", f), api.MaxArgs, api.MaxRegs, slices.Repeat([]ir.Block{one}, api.MaxBlocks)...))
	}
	return m
}

// slow is a module of all blocks that there can be, in which what happens goes back one by one: so it takes rounds upon rounds. Each function's blocks go from the last one to the first, and each calls the one ahead of it.
func slow(funcs int) ir.Module {
	m := ir.Module{Cells: make([]int64, api.MaxCells)}
	for f := range funcs {
		one := fn(fmt.Sprint("f", f), 4, 8)
		for b := range api.MaxBlocks {
			insns := []ir.Insn{load(0, (b+1)%16), store(7, (b+f)%16), two(ir.Add, 2, 2, 3), input(6)}
			for r := 7; r > 3; r-- {
				insns = append(insns, ir.Insn{Op: ir.Move, D: r, A: r - 1})
			}
			end := branch(6, b-1, b)
			switch {
			case b == 0:
				end = jump(11)
			case b == 1:
				end = back(2)
			case b == 11 && f > 0:
				insns = append(insns, call(7, f-1, 4, 5, 6, 7))
			}
			one.Blocks = append(one.Blocks, block(end, insns...))
		}
		m.Funcs = append(m.Funcs, one)
	}
	return m
}

// wantBound holds Height and Bound against what they should be.
func wantBound(t *testing.T, about string, m ir.Module, height, bound int) {
	t.Helper()
	before := fmt.Sprint(m)
	if h, b := Height(m), Bound(m); h != height || b != bound {
		t.Errorf("%s: got %d and %d, want %d and %d", about, h, b, height, bound)
	}
	if fmt.Sprint(m) != before {
		t.Error(about, "changed what was handed in")
	}
}

// P21.1: Height and Bound, part by part.
func TestHeight(t *testing.T) {
	wantBound(t, "without anything", ir.Module{}, 0, 0)
	wantBound(t, "cells", ir.Module{Cells: []int64{1, 2, 3}}, 18, 0)
	wantBound(t, "imports", ir.Module{Imports: []ir.Import{{Name: "g"}, {Name: "h", Arity: 4}}}, 1+25, 0)
	wantBound(t, "five", five(), 8+1+2*(6+3), 56)
	one := func(arity, regs int, blocks ...ir.Block) ir.Module {
		return ir.Module{Funcs: []ir.Func{fn("f", arity, regs, blocks...)}}
	}
	wantBound(t, "a register", one(0, 1, block(back(0))), 8+1+7, 34)
	wantBound(t, "a register that is an argument", one(1, 1, block(back(0))), 8+6+1+7, 46)
	wantBound(t, "as many registers and arguments as can be", one(4, 8, block(back(0))), 8+24+1+8*14, 292)
	wantBound(t, "what sets none", one(0, 1, block(back(0), output(0), output(0))), 8+1+7, 34)
	wantBound(t, "what sets one", one(0, 1, block(back(0), input(0), input(0), output(0))), 8+1+9, 38)
	wantBound(t, "blocks that are no cut points", one(0, 1, block(jump(1)), block(jump(2)), block(back(0), input(0))), 8+1+8, 3*36)
	wantBound(t, "blocks that are", one(0, 1, block(jump(1)), block(branch(0, 1, 2)), block(branch(0, 1, 2), input(0))), 8+3*(1+8), 3*72)
	wantBound(t, "a block to which nobody goes on", one(0, 1, block(back(0)), block(jump(1))), 8+2*(1+7), 2*50)
	// The sites of other functions don't count, its imports' arguments do.
	wantBound(t, "ways", ways(), 2*6+8+2*(1+2*(6+7))+8+6+1+7, 8*(2*96+2))
	wantBound(t, "counting", counting(), 8+2*(1+4*(6+8)), 4*(2*122+2))
	m := rooted()
	wantBound(t, "rooted", m, (8+1+9)+(8+6+1+16)+(8+12+1+16)+1, 3*(2*87+2))
	m.Imports[0].Arity = 3
	wantBound(t, "an import with arguments", m, 105, 3*(2*105+2))
	wantBound(t, "as much as there can be", most(), 16*6+24*(8+24+2*(1+8*(6+152))), 288*(2*61584+2))
}

// P21.1: of a module that isn't well-formed both are 0.
func TestHeightOfWrongModules(t *testing.T) {
	for _, change := range []func(m *ir.Module){
		func(m *ir.Module) { m.Cells = make([]int64, api.MaxCells+1) },
		func(m *ir.Module) { m.Funcs[0].Name = "" },
		func(m *ir.Module) { m.Funcs[1].Regs = 9 },
		func(m *ir.Module) { m.Funcs[1].Regs = -1 },
		func(m *ir.Module) { m.Funcs[1].Arity = 5 },
		func(m *ir.Module) { m.Funcs[1].Blocks = nil },
		func(m *ir.Module) { m.Funcs[0].Blocks[0].End.To = 7 },
		func(m *ir.Module) { m.Funcs[0].Blocks[0].Insns[0].D = 2 },
		func(m *ir.Module) { m.Imports = []ir.Import{{Name: "g"}} },
		func(m *ir.Module) { m.Imports = []ir.Import{{Name: "h", Arity: -1}} },
	} {
		m := ways()
		change(&m)
		wantBound(t, fault.Text(ir.Check(m)), m, 0, 0)
		if ir.Check(m) == nil {
			t.Error("it is well-formed", m)
		}
		wantError(t, "not well-formed", m, nil, 1000000, fault.Text(ir.Check(m)))
	}
}

// P1, P7, P21.3: however much there is, there is an end, within Bound.
func TestMost(t *testing.T) {
	for _, c := range []struct {
		about string
		m     ir.Module
		roots []int
		least int
	}{
		{"most, from ahead", most(), set{0}, 2},
		{"most, from behind", most(), set{23}, 3},
		{"most, from all", most(), below(24), 2},
		{"most, from none", most(), nil, 1},
		{"slow", slow(8), set{7}, 88},
		{"slow, and as many functions as can be, all of them roots", slow(24), below(24), 11},
	} {
		x, steps, e := Solve(c.m, c.roots, Bound(c.m))
		if e != nil || steps < c.least*countBlocks(c.m) {
			t.Fatal(c.about, fault.Text(e), steps, countBlocks(c.m))
		}
		if e := edges.Check(c.m, x); e != nil {
			t.Error(c.about, fault.Text(e))
		}
		if !table.Within(x, table.Any(c.m)) {
			t.Error(c.about, "isn't within Any")
		}
	}
}

// below is the set of all numbers below n.
func below(n int) set {
	s := make(set, n)
	for i := range s {
		s[i] = i
	}
	return s
}
