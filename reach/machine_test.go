package reach

import (
	"fmt"
	"math/rand"
	"slices"
	"testing"

	"averment/bits"
	"averment/ir"
	"averment/vm"
)

func someNumbers(source *rand.Rand, n int) []int64 {
	var all []int64
	for range n {
		all = append(all, int64(source.Intn(7)-3))
	}
	return all
}

// someModule is a closed well-formed module by chance, of functions with at most so many blocks, that call one another.
func someModule(t *testing.T, source *rand.Rand, blocks int) ir.Module {
	t.Helper()
	m := ir.Module{Cells: someNumbers(source, 2)}
	for f := range 1 + source.Intn(3) {
		arity := source.Intn(5)
		m.Funcs = append(m.Funcs, ir.Func{Name: fmt.Sprint("f", f), Arity: arity, Regs: max(1, arity) + source.Intn(4)})
	}
	for f := range m.Funcs {
		n := 1 + source.Intn(blocks)
		for range n {
			m.Funcs[f].Blocks = append(m.Funcs[f].Blocks, someBlock(source, m, m.Funcs[f].Regs, n))
		}
	}
	wellFormed(t, m)
	return m
}

// someBlock is a block of a function of m, with so many registers and blocks.
func someBlock(source *rand.Rand, m ir.Module, regs, blocks int) ir.Block {
	var b ir.Block
	for range source.Intn(5) {
		b.Insns = append(b.Insns, someInsn(source, m, regs))
	}
	a, to, other := source.Intn(regs), source.Intn(blocks), source.Intn(blocks)
	switch source.Intn(4) {
	case 0:
		b.End = jump(to)
	case 1:
		b.End = back(a)
	default:
		b.End = branch(a, to, other)
	}
	return b
}

func someInsn(source *rand.Rand, m ir.Module, regs int) ir.Insn {
	x := ir.Insn{Op: 1 + source.Intn(17)}
	if _, sets := ir.Sets(x); sets {
		x.D = source.Intn(regs)
	}
	switch {
	case x.Op == ir.Const:
		x.N = int64(source.Intn(5) - 2)
	case x.Op == ir.Load || x.Op == ir.Store:
		x.B = source.Intn(len(m.Cells))
	case x.Op == ir.Call:
		x.B = source.Intn(len(m.Funcs))
		for range ir.Arity(m, x.B) {
			x.Args = append(x.Args, source.Intn(regs))
		}
	case x.Op >= ir.Add && x.Op <= ir.Same:
		x.B = source.Intn(regs)
	}
	if x.Op >= ir.Move && x.Op <= ir.Same || x.Op == ir.Store || x.Op == ir.Output {
		x.A = source.Intn(regs)
	}
	return x
}

// P16.2: whatever a machine does, ahead of each block each register's Last is in its set.
func TestLastIsInItsSet(t *testing.T) {
	source := rand.New(rand.NewSource(26))
	beginnings, further := 0, 0
	for range 1500 {
		m := someModule(t, source, 5)
		var all [][][][]int
		for f := range m.Funcs {
			all = append(all, Solve(m, f))
		}
		f := source.Intn(len(m.Funcs))
		v, e := vm.Start(m, f, someNumbers(source, m.Funcs[f].Arity), someNumbers(source, 20))
		if e != nil {
			t.Fatal(e)
		}
		for range 100 {
			frames := v.Frames()
			if v.How() != vm.Running {
				break
			}
			fr := frames[len(frames)-1]
			// Whatever the numbers are: now and then one is changed, so that Branches go other ways.
			v.Poke(source.Intn(len(fr.Regs)), int64(source.Intn(2)))
			v.Step()
			if fr.Insn > 0 {
				continue
			}
			for r, last := range fr.Last {
				if !bits.Has(all[fr.Func][fr.Block][r], last) {
					t.Fatal(m, fr, r, last, all[fr.Func][fr.Block])
				}
				if last >= ir.First(m, fr.Func)+len(fr.Regs) {
					further++
				} else {
					beginnings++
				}
			}
		}
	}
	if beginnings < 5000 || further < 5000 {
		t.Error("too few", beginnings, further)
	}
}

// P16.2: behind a block each register's Last is in what Behind tells, if it was in its set ahead of it.
func TestLastBehindABlock(t *testing.T) {
	source := rand.New(rand.NewSource(27))
	count := 0
	for range 1500 {
		m := someModule(t, source, 4)
		v, e := vm.Start(m, 0, someNumbers(source, m.Funcs[0].Arity), someNumbers(source, 20))
		if e != nil {
			t.Fatal(e)
		}
		var ahead [][]int
		was := 0
		for range 60 {
			frames := v.Frames()
			if v.How() != vm.Running {
				break
			}
			// The outermost frame alone: it stands still in its block while others come and go.
			fr := frames[0]
			if len(frames) == 1 && fr.Insn == 0 {
				if ahead != nil {
					count++
					if !slices.EqualFunc(Behind(m, 0, was, ahead), fr.Last, bits.Has) {
						t.Fatal(m, was, ahead, fr)
					}
				}
				ahead, was = nil, fr.Block
				for _, last := range fr.Last {
					ahead = append(ahead, []int{last})
				}
			}
			v.Step()
		}
	}
	if count < 2000 {
		t.Error("too few", count)
	}
}

// P16.2: a loop with a Call, by hand: ahead of each block each site that its set has is some machine's Last.
func TestALoopOfCalls(t *testing.T) {
	m := ir.Module{Funcs: []ir.Func{
		{Name: "main", Regs: 2, Blocks: []ir.Block{
			block(jump(1)),
			block(branch(1, 2, 3), ir.Insn{Op: ir.Input, D: 1}),
			block(jump(1), ir.Insn{Op: ir.Call, D: 0, B: 1, Args: []int{0}}),
			block(back(0)),
		}},
		{Name: "g", Arity: 1, Regs: 1, Blocks: []ir.Block{block(branch(0, 2, 1), output(0)), block(jump(2), number(0)), block(back(0))}},
	}}
	wellFormed(t, m)
	if got := fmt.Sprint(Solve(m, 0), Solve(m, 1)); got != "[[[0] [1]] [[0 3] [1 2]] [[0 3] [2]] [[0 3] [2]]] [[[4]] [[4]] [[4 5]]]" {
		t.Fatal(got)
	}
	seen := map[[4]int]bool{}
	for _, in := range [][]int64{{0}, {1, 1, 0}} {
		v, e := vm.Start(m, 0, nil, in)
		if e != nil {
			t.Fatal(e)
		}
		for v.How() == vm.Running {
			frames := v.Frames()
			if fr := frames[len(frames)-1]; fr.Insn == 0 {
				for r, last := range fr.Last {
					seen[[4]int{fr.Func, fr.Block, r, last}] = true
				}
			}
			v.Step()
		}
		if v.How() != vm.Done {
			t.Fatal(v.Frames())
		}
	}
	told := 0
	for f := range m.Funcs {
		for b, sets := range Solve(m, f) {
			for r, set := range sets {
				for _, site := range set {
					told++
					if !seen[[4]int{f, b, r, site}] {
						t.Error(f, b, r, site)
					}
				}
			}
		}
	}
	if told != len(seen) {
		t.Error(told, seen)
	}
}
