package flow

import (
	"math/rand"
	"slices"
	"testing"

	"averment/fact"
	"averment/ir"
	"averment/state"
	"averment/vm"
)

// innermost is the frame that goes on, if there is one.
func innermost(v *vm.Machine) (vm.Frame, bool) {
	frames := v.Frames()
	if v.How() != vm.Running || len(frames) == 0 {
		return vm.Frame{}, false
	}
	return frames[len(frames)-1], true
}

// visit hands out machines at all kinds of places: of modules by chance, with registers that are changed by chance.
func visit(t *testing.T, seed int64, each func(source *rand.Rand, m ir.Module, v *vm.Machine, fr vm.Frame)) {
	source := rand.New(rand.NewSource(seed))
	for range 1500 {
		m := someModule(t, source, 0)
		f := source.Intn(len(m.Funcs))
		v, e := vm.Start(m, f, someNumbers(source, m.Funcs[f].Arity), someNumbers(source, 20))
		if e != nil {
			t.Fatal(e)
		}
		for range 40 {
			fr, ok := innermost(v)
			if !ok {
				break
			}
			if source.Intn(3) == 0 {
				v.Poke(source.Intn(len(fr.Regs)), someNumber(source))
				fr, _ = innermost(v)
			}
			each(source, m, v.Copy(), fr)
			v.Step()
		}
	}
}

// hasAll tells whether each of the numbers is in what is told of it.
func hasAll(vals []fact.Value, numbers []int64) bool {
	return slices.EqualFunc(vals, numbers, fact.Has)
}

// P14.2, P3: what a machine does with an instruction that is no Call is told, and what is stored is in a Need.
func TestAMachinesInsn(t *testing.T) {
	done, trapped := make([]int, 18), 0
	visit(t, 11, func(source *rand.Rand, m ir.Module, v *vm.Machine, fr vm.Frame) {
		insns := m.Funcs[fr.Func].Blocks[fr.Block].Insns
		if fr.Insn == len(insns) || insns[fr.Insn].Op == ir.Call {
			return
		}
		x := insns[fr.Insn]
		e := someEnv(t, source, m, v.Cells())
		s := stateOf(source, fr.Regs, fr.Last, ir.Sites(m))
		if !state.Has(s, fr.Regs, fr.Last) || !hasAll(e.Cells, v.Cells()) {
			t.Fatal("the frame isn't in s")
		}
		behind, needs := Insn(e, fr.Func, fr.Block, fr.Insn, s)
		if !v.Step() {
			trapped++
			return
		}
		done[x.Op]++
		now, _ := innermost(v)
		if !state.Has(behind, now.Regs, now.Last) {
			t.Error(x, s, behind, now)
		}
		stored := slices.ContainsFunc(needs, func(n Need) bool {
			return n.Store && n.To == x.B && n.Insn == fr.Insn && len(n.Vals) == 1 && fact.Has(n.Vals[0], v.Cells()[x.B])
		})
		if stored != (x.Op == ir.Store) {
			t.Error(x, needs)
		}
	})
	for op := ir.Const; op <= ir.Output; op++ {
		if done[op] < 20 {
			t.Error("too few of", op, done[op])
		}
	}
	if trapped < 20 {
		t.Error("too few traps", trapped)
	}
}

// withoutCalls tells whether no instruction of the block is a Call.
func withoutCalls(b ir.Block) bool {
	return !slices.ContainsFunc(b.Insns, func(x ir.Insn) bool { return x.Op == ir.Call })
}

// P14.2, P3: what a machine does with a block without Calls is told: where it goes on, what it stores, what it returns.
func TestAMachinesBlock(t *testing.T) {
	ended := make([]int, 4)
	visit(t, 12, func(source *rand.Rand, m ir.Module, v *vm.Machine, fr vm.Frame) {
		block := m.Funcs[fr.Func].Blocks[fr.Block]
		if fr.Insn > 0 || !withoutCalls(block) {
			return
		}
		e := someEnv(t, source, m, v.Cells())
		s := stateOf(source, fr.Regs, fr.Last, ir.Sites(m))
		var stored []Need
		for i, x := range block.Insns {
			if !v.Step() {
				return
			}
			if x.Op == ir.Store {
				n := v.Cells()[x.B]
				stored = append(stored, Need{Insn: i, Store: true, To: x.B, Vals: []fact.Value{fact.Of(n)}})
				e.Cells[x.B] = fact.Join(e.Cells[x.B], fact.Of(n))
			}
		}
		last, _ := innermost(v)
		v.Step()
		now, _ := innermost(v)
		ended[block.End.Op]++
		o := Block(e, fr.Func, fr.Block, s)
		if !needsWithin(stored, o.Needs) {
			t.Error(stored, o.Needs)
		}
		if block.End.Op == ir.Return {
			if !o.Returns || !fact.Has(o.Result, last.Regs[block.End.A]) {
				t.Error(o, last)
			}
			return
		}
		if !slices.ContainsFunc(o.Edges, func(x Edge) bool {
			return x.To == now.Block && state.Has(x.State, now.Regs, now.Last)
		}) {
			t.Error(o, now)
		}
	})
	if slices.Min(ended[1:]) < 100 {
		t.Error("too few", ended)
	}
}

// P3: a Call's arguments are in its Need; behind it the frame is in what is told, if what is returned is in the Sum.
func TestAMachinesCall(t *testing.T) {
	calls := 0
	visit(t, 13, func(source *rand.Rand, m ir.Module, v *vm.Machine, fr vm.Frame) {
		insns := m.Funcs[fr.Func].Blocks[fr.Block].Insns
		if fr.Insn == len(insns) || insns[fr.Insn].Op != ir.Call {
			return
		}
		x := insns[fr.Insn]
		e := someEnv(t, source, m, v.Cells())
		s := stateOf(source, fr.Regs, fr.Last, ir.Sites(m))
		depth := len(v.Frames())
		for steps := 0; steps < 60 && v.Step() && len(v.Frames()) > depth; steps++ {
		}
		if len(v.Frames()) != depth || v.How() != vm.Running {
			return
		}
		calls++
		now, _ := innermost(v)
		e.Sums[x.B] = returns(around(source, now.Regs[x.D]))
		behind, needs := Insn(e, fr.Func, fr.Block, fr.Insn, s)
		if !state.Has(behind, now.Regs, now.Last) {
			t.Error(x, s, behind, now)
		}
		var args []int64
		for _, r := range x.Args {
			args = append(args, fr.Regs[r])
		}
		if len(needs) != 1 || needs[0].Store || needs[0].To != x.B || needs[0].Insn != fr.Insn || !hasAll(needs[0].Vals, args) {
			t.Error(x, needs)
		}
	})
	if calls < 40 {
		t.Error("too few", calls)
	}
}
