package live

import (
	"fmt"
	"math"
	"math/rand"
	"slices"
	"testing"

	"averment/bits"
	"averment/ir"
	"averment/vm"
)

// someNumber is often 0: so Branches go both ways.
func someNumber(source *rand.Rand) int64 {
	if source.Intn(5) == 0 {
		return []int64{math.MinInt64, -1 << 40, 1 << 31, math.MaxInt64}[source.Intn(4)]
	}
	return int64(source.Intn(7) - 3)
}

func someNumbers(source *rand.Rand, n int) []int64 {
	var all []int64
	for range n {
		all = append(all, someNumber(source))
	}
	return all
}

// someFunc is a function by chance, with so many blocks and registers, of a module such as wellFormed takes.
func someFunc(source *rand.Rand, blocks, regs int) ir.Func {
	f := fn(regs)
	m := ir.Module{Cells: []int64{1, 2}, Funcs: []ir.Func{f}}
	for n := range 5 {
		m.Imports = append(m.Imports, ir.Import{Name: fmt.Sprint("g", n), Arity: n})
	}
	for range blocks {
		f.Blocks = append(f.Blocks, someBlock(source, m, regs, blocks))
	}
	return f
}

// someModule is a closed well-formed module by chance, whose functions call one another.
func someModule(t *testing.T, source *rand.Rand) ir.Module {
	t.Helper()
	m := ir.Module{Cells: someNumbers(source, 1+source.Intn(3))}
	for f := range 1 + source.Intn(3) {
		arity := source.Intn(5)
		m.Funcs = append(m.Funcs, ir.Func{Name: fmt.Sprint("f", f), Arity: arity, Regs: max(1, arity) + source.Intn(4)})
	}
	for f := range m.Funcs {
		n := 1 + source.Intn(5)
		for range n {
			m.Funcs[f].Blocks = append(m.Funcs[f].Blocks, someBlock(source, m, m.Funcs[f].Regs, n))
		}
	}
	if e := ir.Check(m); e != nil {
		t.Fatal(e)
	}
	return m
}

// someBlock is a block of a function of m, with so many registers and blocks.
func someBlock(source *rand.Rand, m ir.Module, regs, blocks int) ir.Block {
	var b ir.Block
	for range source.Intn(6) {
		b.Insns = append(b.Insns, someInsn(source, m, regs))
	}
	a, to, other := source.Intn(regs), source.Intn(blocks), source.Intn(blocks)
	switch source.Intn(4) {
	case 0:
		b.End = jump(to)
	case 1:
		b.End = back(a)
	default:
		b.End = branch(a, to, other)
	}
	return b
}

func someInsn(source *rand.Rand, m ir.Module, regs int) ir.Insn {
	x := ir.Insn{Op: 1 + source.Intn(17)}
	if _, sets := ir.Sets(x); sets {
		x.D = source.Intn(regs)
	}
	switch {
	case x.Op == ir.Const:
		x.N = someNumber(source)
	case x.Op == ir.Load || x.Op == ir.Store:
		x.B = source.Intn(len(m.Cells))
	case x.Op == ir.Call:
		x.B = source.Intn(len(m.Funcs) + len(m.Imports))
		for range ir.Arity(m, x.B) {
			x.Args = append(x.Args, source.Intn(regs))
		}
	case x.Op >= ir.Add && x.Op <= ir.Same:
		x.B = source.Intn(regs)
	}
	if x.Op >= ir.Move && x.Op <= ir.Same || x.Op == ir.Store || x.Op == ir.Output {
		x.A = source.Intn(regs)
	}
	return x
}

// someLives are of each function the sets of registers that count, at which Check has none: the least ones, or by chance more.
func someLives(t *testing.T, source *rand.Rand, m ir.Module) [][][]int {
	t.Helper()
	var lives [][][]int
	for _, f := range m.Funcs {
		live := Solve(f)
		if source.Intn(2) == 0 {
			b := source.Intn(len(live))
			live[b] = bits.Union(live[b], []int{source.Intn(f.Regs)})
		}
		// Each time a set grows, so that there are no more times than registers in all sets.
		for range len(live) * f.Regs {
			if b := Check(f, live); b >= 0 {
				live[b] = bits.Union(live[b], Block(f, b, After(f, b, live)))
			}
		}
		if at := Check(f, live); at != -1 {
			t.Fatal(f, live, at)
		}
		lives = append(lives, live)
	}
	return lives
}

// atBlocks hands out machines ahead of blocks, by chance, with the innermost frame, and what counts there.
func atBlocks(t *testing.T, seed int64, each func(source *rand.Rand, v *vm.Machine, fr vm.Frame, live []int)) {
	source := rand.New(rand.NewSource(seed))
	for range 1200 {
		m := someModule(t, source)
		lives := someLives(t, source, m)
		f := source.Intn(len(m.Funcs))
		v, e := vm.Start(m, f, someNumbers(source, m.Funcs[f].Arity), someNumbers(source, 12))
		if e != nil {
			t.Fatal(e)
		}
		for range 40 {
			frames := v.Frames()
			if v.How() != vm.Running {
				break
			}
			if fr := frames[len(frames)-1]; fr.Insn == 0 {
				each(source, v, fr, lives[fr.Func][fr.Block])
			}
			v.Step()
		}
	}
}

// end runs a machine, and tells all that is to be seen of how it goes out and ends, and whether it ended.
func end(v *vm.Machine) (string, bool) {
	v.Run(400)
	n, ok := v.Result()
	return fmt.Sprint(v.How(), n, ok, v.Out(), v.Cells(), v.Left()), v.How() != vm.Running
}

// P15.2, P5: another number in a register that doesn't count, run to the end on both sides.
func TestAnotherNumber(t *testing.T) {
	ended, done, changed := 0, 0, 0
	atBlocks(t, 21, func(source *rand.Rand, v *vm.Machine, fr vm.Frame, live []int) {
		want, isEnd := end(v.Copy())
		for r, old := range fr.Regs {
			other := v.Copy()
			if !other.Poke(r, old^someNumber(source)^1<<20) {
				t.Fatal(r)
			}
			got, _ := end(other)
			if slices.Contains(live, r) {
				if got != want {
					changed++
				}
				continue
			}
			if got != want {
				t.Fatal(fr, live, r, "got", got, "want", want)
			}
			if isEnd {
				ended++
			}
			if other.How() == vm.Done {
				done++
			}
		}
	})
	if ended < 2000 || done < 500 || changed < 1000 {
		t.Error("too few", ended, done, changed)
	}
}

// P15.2: other numbers in all registers that don't count, ahead of each block on the way.
func TestOtherNumbersAgainAndAgain(t *testing.T) {
	ended := 0
	atBlocks(t, 22, func(source *rand.Rand, v *vm.Machine, fr vm.Frame, live []int) {
		want, isEnd := end(v.Copy())
		if isEnd {
			ended++
		}
		// The run itself goes on with the other numbers.
		for r := range fr.Regs {
			if !slices.Contains(live, r) {
				v.Poke(r, someNumber(source))
			}
		}
		if got, _ := end(v.Copy()); got != want {
			t.Fatal(fr, live, "got", got, "want", want)
		}
	})
	if ended < 1000 {
		t.Error("too few", ended)
	}
}

// P15.2: a loop by hand: what counts makes a difference, what doesn't makes none, whether it is Done or Trapped.
func TestALoop(t *testing.T) {
	m := ir.Module{Cells: []int64{0}, Funcs: []ir.Func{{Name: "main", Arity: 1, Regs: 4, Blocks: []ir.Block{
		block(jump(1), number(3)),
		block(branch(0, 2, 3), ir.Insn{Op: ir.Const, D: 2, N: 1}, ir.Insn{Op: ir.Sub, D: 1, A: 0, B: 2}),
		block(jump(1), output(0), move(0, 1), ir.Insn{Op: ir.Rem, D: 0, A: 0, B: 3}, ir.Insn{Op: ir.Store, A: 0}),
		block(back(1), ir.Insn{Op: ir.Input, D: 3}),
	}}}}
	if e := ir.Check(m); e != nil {
		t.Fatal(e)
	}
	f := m.Funcs[0]
	live := Solve(f)
	if fmt.Sprint(live) != "[[0] [0 3] [0 1 3] [1]]" {
		t.Fatal(live)
	}
	for _, in := range [][]int64{nil, {7}} {
		changed := make([]int, f.Regs)
		v, e := vm.Start(m, 0, []int64{13}, in)
		if e != nil {
			t.Fatal(e)
		}
		want, isEnd := end(v.Copy())
		if !isEnd {
			t.Fatal(want)
		}
		for v.How() == vm.Running {
			if fr := v.Frames()[0]; fr.Insn == 0 {
				for r := range f.Regs {
					other := v.Copy()
					other.Poke(r, 100)
					got, _ := end(other)
					if got == want {
						continue
					}
					changed[r]++
					if !slices.Contains(live[fr.Block], r) {
						t.Error(fr, r, got, want)
					}
				}
			}
			v.Step()
		}
		if changed[0] == 0 || changed[1] == 0 || changed[2] != 0 || changed[3] == 0 {
			t.Error(changed)
		}
	}
}
