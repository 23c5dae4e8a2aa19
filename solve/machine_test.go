package solve

import (
	"fmt"
	"math/rand"
	"slices"
	"testing"

	"averment/fact"
	"averment/fault"
	"averment/ir"
	"averment/state"
	"averment/table"
	"averment/vm"
)

// watcher looks whether a machine does what a Table tells, and counts how often it looked.
type watcher struct {
	m                                 ir.Module
	x                                 table.Table
	frames, calls, results, cells, ms int
}

// watch does steps, and tells what isn't as it is told: nothing, if all is.
func (w *watcher) watch(v *vm.Machine, steps int) string {
	w.ms++
	depth := 0
	for range steps {
		for c, n := range v.Cells() {
			w.cells++
			if !fact.Has(w.x.Cells[c], n) {
				return fmt.Sprint("cell ", c, " has ", n)
			}
		}
		frames := v.Frames()
		if v.How() != vm.Running {
			return ""
		}
		if wrong := w.look(frames[len(frames)-1], len(frames) > depth); wrong != "" {
			return wrong
		}
		depth = len(frames)
		v.Step()
	}
	return ""
}

// look looks at a frame: at a function's beginning, ahead of a block, and where it returns.
func (w *watcher) look(fr vm.Frame, fresh bool) string {
	fn, told := w.m.Funcs[fr.Func], w.x.Funcs[fr.Func]
	if fresh {
		w.calls++
		if !told.Sum.Called || !slices.EqualFunc(told.Sum.Args, fr.Regs[:fn.Arity], fact.Has) {
			return fmt.Sprint("it is called so: ", fr)
		}
	}
	if fr.Insn == 0 {
		w.frames++
		if !state.Has(told.Blocks[fr.Block].State, fr.Regs, fr.Last) {
			return fmt.Sprint("it comes there so: ", fr)
		}
	}
	block := fn.Blocks[fr.Block]
	if fr.Insn == len(block.Insns) && block.End.Op == ir.Return {
		w.results++
		if !told.Sum.Returns || !fact.Has(told.Sum.Result, fr.Regs[block.End.A]) {
			return fmt.Sprint("it returns so: ", fr)
		}
	}
	return ""
}

// start is a machine at the beginning of a function, with arguments and what comes in by chance.
func start(t *testing.T, source *rand.Rand, m ir.Module, f int) *vm.Machine {
	t.Helper()
	v, e := vm.Start(m, f, someNumbers(source, m.Funcs[f].Arity), someNumbers(source, source.Intn(12)))
	if e != nil {
		t.Fatal(fault.Text(e))
	}
	return v
}

// P21.2, P5: whatever a machine does that begins with main, or with a root and any arguments, is told: frames, cells, results.
func TestWhatIsFoundIsSo(t *testing.T) {
	var all watcher
	some(t, 10, 1500, 0, func(source *rand.Rand, m ir.Module, roots []int) {
		x, _, e := Solve(m, roots, Bound(m))
		if e != nil {
			t.Fatal(m, roots, fault.Text(e))
		}
		begins := slices.Clone(roots)
		if f := vm.Entry(m); f >= 0 {
			begins = append(begins, f)
		}
		w := &watcher{m: m, x: x}
		for _, f := range begins {
			for range 3 {
				if not := w.watch(start(t, source, m, f), 150); not != "" {
					t.Fatal(not, m, roots, x)
				}
			}
		}
		all.ms, all.frames, all.calls = all.ms+w.ms, all.frames+w.frames, all.calls+w.calls
		all.results, all.cells = all.results+w.results, all.cells+w.cells
	})
	if all.ms < 3000 || all.frames < 20000 || all.calls < 5000 || all.results < 1500 || all.cells < 100000 {
		t.Error("too few", all.ms, all.frames, all.calls, all.results, all.cells)
	}
}

// P21.2: what isn't a root, and isn't called by one, isn't told to be called: a machine that begins there may do otherwise.
func TestWhatIsNoRoot(t *testing.T) {
	otherwise := 0
	some(t, 11, 300, 0, func(source *rand.Rand, m ir.Module, _ []int) {
		x, _, _ := Solve(m, nil, Bound(m))
		for f := range m.Funcs {
			w := &watcher{m: m, x: x}
			if w.watch(start(t, source, m, f), 50) != "" {
				otherwise++
			}
			// As a root it is told.
			w.x, _, _ = Solve(m, set{f}, Bound(m))
			if not := w.watch(start(t, source, m, f), 50); not != "" {
				t.Fatal(not, m, f, w.x)
			}
		}
	})
	if otherwise < 200 {
		t.Error("too few", otherwise)
	}
}

// P21.2: modules by hand, with all numbers that come in from -3 to 3.
func TestWhatIsFoundByHand(t *testing.T) {
	for about, m := range map[string]ir.Module{"ways": ways(), "counting": counting(), "five": five(), "slow": slow(2)} {
		roots := set{0}
		x, _, e := Solve(m, roots, Bound(m))
		if e != nil {
			t.Fatal(about, fault.Text(e))
		}
		for a := int64(-3); a <= 3; a++ {
			for b := int64(-3); b <= 3; b++ {
				args := []int64{a, b, a - b, 1}[:m.Funcs[0].Arity]
				v, e := vm.Start(m, 0, args, []int64{a, b, b, a, 0, 0, b, 0})
				if e != nil {
					t.Fatal(about, fault.Text(e))
				}
				w := &watcher{m: m, x: x}
				if not := w.watch(v, 500); not != "" {
					t.Error(about, a, b, not)
				}
			}
		}
	}
}

// end runs a machine, and tells all that is to be seen of how it goes out and ends, and whether it ended.
func end(v *vm.Machine) (string, bool) {
	v.Run(300)
	n, ok := v.Result()
	return fmt.Sprint(v.How(), n, ok, v.Out(), v.Cells(), v.Left()), v.How() != vm.Running
}

// scramble does steps, with another number in each register that isn't told to count, ahead of each block.
func scramble(source *rand.Rand, v *vm.Machine, x table.Table) (changed int) {
	for range 300 {
		frames := v.Frames()
		if v.How() != vm.Running {
			break
		}
		fr := frames[len(frames)-1]
		for r := range fr.Regs {
			if fr.Insn == 0 && !slices.Contains(x.Funcs[fr.Func].Blocks[fr.Block].Live, r) {
				v.Poke(r, someNumber(source))
				changed++
			}
		}
		v.Step()
	}
	return changed
}

// P5: of what is found: another number in a register that doesn't count makes no difference.
func TestWhatDoesntCount(t *testing.T) {
	ended, changed := 0, 0
	some(t, 12, 400, 0, func(source *rand.Rand, m ir.Module, _ []int) {
		x, _, _ := Solve(m, below(len(m.Funcs)), Bound(m))
		for f := range m.Funcs {
			v := start(t, source, m, f)
			want, isEnd := end(v.Copy())
			n := scramble(source, v, x)
			if got, _ := end(v); isEnd && got != want {
				t.Fatal(m, f, x, "got", got, "want", want)
			}
			if isEnd {
				ended, changed = ended+1, changed+n
			}
		}
	})
	if ended < 500 || changed < 1500 {
		t.Error("too few", ended, changed)
	}
}
