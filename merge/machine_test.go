package merge_test

import (
	"fmt"
	"math/rand"
	"slices"
	"testing"

	"averment/fact"
	"averment/fault"
	"averment/ir"
	"averment/reload"
	"averment/state"
	"averment/table"
	"averment/vm"
)

// watcher looks whether a machine does what a Table tells, and counts how often it looked.
type watcher struct {
	m                                 ir.Module
	x                                 table.Table
	frames, calls, results, cells, ms int
}

// watch does steps, and tells what isn't as it is told: nothing, if all is.
func (w *watcher) watch(v *vm.Machine, steps int) string {
	w.ms++
	depth := 0
	for range steps {
		for c, n := range v.Cells() {
			w.cells++
			if !fact.Has(w.x.Cells[c], n) {
				return fmt.Sprint("cell ", c, " has ", n)
			}
		}
		frames := v.Frames()
		if v.How() != vm.Running {
			return ""
		}
		if wrong := w.look(frames[len(frames)-1], len(frames) > depth); wrong != "" {
			return wrong
		}
		depth = len(frames)
		v.Step()
	}
	return ""
}

// look looks at a frame: at a function's beginning, ahead of a block, and where it returns.
func (w *watcher) look(fr vm.Frame, fresh bool) string {
	fn, told := w.m.Funcs[fr.Func], w.x.Funcs[fr.Func]
	if fresh {
		w.calls++
		if !told.Sum.Called || !slices.EqualFunc(told.Sum.Args, fr.Regs[:fn.Arity], fact.Has) {
			return fmt.Sprint("it is called so: ", fr)
		}
	}
	if fr.Insn == 0 {
		w.frames++
		if !state.Has(told.Blocks[fr.Block].State, fr.Regs, fr.Last) {
			return fmt.Sprint("it comes there so: ", fr)
		}
	}
	block := fn.Blocks[fr.Block]
	if fr.Insn == len(block.Insns) && block.End.Op == ir.Return {
		w.results++
		if !told.Sum.Returns || !fact.Has(told.Sum.Result, fr.Regs[block.End.A]) {
			return fmt.Sprint("it returns so: ", fr)
		}
	}
	return ""
}

// start is a machine at the beginning of main.
func start(t *testing.T, m ir.Module, in []int64) *vm.Machine {
	t.Helper()
	v, e := vm.Start(m, vm.Entry(m), nil, in)
	if e != nil {
		t.Fatal(fault.Text(e))
	}
	return v
}

// closedPairs goes through what Merge makes of files of two modules by chance, as far as it has main and no imports.
func closedPairs(t *testing.T, seed int64, times int, each func(source *rand.Rand, all []ir.Module, m ir.Module, x table.Table)) {
	t.Helper()
	some(t, seed, times, 2, false, func(source *rand.Rand, all []ir.Module, told []table.Table) {
		got := merging(files(t, all[0], told[0])[source.Intn(2)], files(t, all[1], told[1])[source.Intn(2)])
		m, x, _, e := reload.Load(got.B)
		if got.E == "ok" && e != nil {
			t.Fatal(fault.Text(e))
		}
		if got.E != "ok" || vm.Entry(m) < 0 {
			return
		}
		if len(m.Imports) > 0 {
			t.Fatal("it is open", m)
		}
		each(source, all, m, x)
	})
}

// P23.4, P5: whatever a machine does that begins with main is told: frames, cells, results.
func TestWhatIsMergedIsSo(t *testing.T) {
	var all watcher
	across := 0
	closedPairs(t, 40, 1500, func(source *rand.Rand, parts []ir.Module, m ir.Module, x table.Table) {
		w := &watcher{m: m, x: x}
		for range 4 {
			v := start(t, m, someNumbers(source, source.Intn(12)))
			if not := w.watch(v, 150); not != "" {
				t.Fatal(not, m, x)
			}
		}
		across += len(parts[0].Imports) * len(parts[1].Imports)
		all.ms, all.frames, all.calls = all.ms+w.ms, all.frames+w.frames, all.calls+w.calls
		all.results, all.cells = all.results+w.results, all.cells+w.cells
	})
	if all.ms < 1000 || all.frames < 5000 || all.calls < 3000 || all.results < 500 || all.cells < 40000 || across < 300 {
		t.Error("too few", all.ms, all.frames, all.calls, all.results, all.cells, across)
	}
}

// end runs a machine, and tells all that is to be seen of how it goes out and ends, and whether it ended.
func end(v *vm.Machine) (string, bool) {
	v.Run(300)
	n, ok := v.Result()
	return fmt.Sprint(v.How(), n, ok, v.Out(), v.Cells(), v.Left()), v.How() != vm.Running
}

// scramble does steps, with another number in each register that isn't told to count, ahead of each block.
func scramble(source *rand.Rand, v *vm.Machine, x table.Table) (changed int) {
	for range 300 {
		frames := v.Frames()
		if v.How() != vm.Running {
			break
		}
		fr := frames[len(frames)-1]
		for r := range fr.Regs {
			if fr.Insn == 0 && !slices.Contains(x.Funcs[fr.Func].Blocks[fr.Block].Live, r) {
				v.Poke(r, someNumber(source))
				changed++
			}
		}
		v.Step()
	}
	return changed
}

// P23.4, P5: another number in a register that doesn't count makes no difference.
func TestWhatDoesntCount(t *testing.T) {
	ended, changed := 0, 0
	closedPairs(t, 41, 1000, func(source *rand.Rand, _ []ir.Module, m ir.Module, x table.Table) {
		for range 2 {
			v := start(t, m, someNumbers(source, source.Intn(12)))
			want, isEnd := end(v.Copy())
			n := scramble(source, v, x)
			if got, _ := end(v); isEnd && got != want {
				t.Fatal(m, x, "got", got, "want", want)
			}
			if isEnd {
				ended, changed = ended+1, changed+n
			}
		}
	})
	if ended < 200 || changed < 400 {
		t.Error("too few", ended, changed)
	}
}

// P23.4: what isn't told by one that calls isn't so: where what ErrImply stands against were put together, a machine would do otherwise.
func TestWhatIsRefused(t *testing.T) {
	otherwise, refused := 0, 0
	some(t, 42, 2000, 2, false, func(source *rand.Rand, all []ir.Module, told []table.Table) {
		m := linked(t, all...)
		if e := join(all[0], told[0], all[1], told[1]).E; e == "ok" || vm.Entry(m) < 0 {
			return
		}
		refused++
		w := &watcher{m: m, x: modelTable(m, all[0], told[0], all[1], told[1])}
		for range 4 {
			if w.watch(start(t, m, someNumbers(source, source.Intn(12))), 150) != "" {
				otherwise++
				break
			}
		}
	})
	if refused < 150 || otherwise < 30 {
		t.Error("too few", refused, otherwise)
	}
}

// P23.4: by hand: main gives g what comes in modulo 4, and g adds its cell.
func TestRunByHand(t *testing.T) {
	a := ir.Module{Cells: []int64{7}, Funcs: []ir.Func{fn("main", 0, 2,
		block(back(1), input(0), number(1, 3), two(ir.And, 0, 0, 1), call(1, 1, 0), output(1), store(1, 0)))},
		Imports: []ir.Import{{Name: "g", Arity: 1}}}
	b := ir.Module{Cells: []int64{9}, Funcs: []ir.Func{
		fn("g", 1, 2, block(back(0), load(1, 0), two(ir.Add, 0, 0, 1)))}}
	s := solved(t, a)
	// main believes that g returns 9 to 12, g that it gets 0 to 3.
	s.Imports[0].Result = from(9, 12)
	s.Funcs[0].Sum.Result, s.Cells[0] = from(9, 12), fact.Join(fact.Of(7), from(9, 12))
	u := solved(t, b)
	u.Funcs[0].Sum.Called, u.Funcs[0].Sum.Args = true, []fact.Value{from(0, 3)}
	u = grown(t, b, u)
	for _, c := range []struct {
		about string
		file  merged
		cell  int
	}{
		{"main, g", merging(files(t, a, s)[1], files(t, b, u)[0]), 0},
		{"g, main", merging(files(t, b, u)[1], files(t, a, s)[0]), 1},
	} {
		m, x, _, e := reload.Load(c.file.B)
		if c.file.E != "ok" || e != nil || len(m.Imports) != 0 {
			t.Fatal(c.about, c.file.E, fault.Text(e))
		}
		if told := x.Funcs[vm.Entry(m)].Sum.Result; told != from(9, 12) || x.Cells[1-c.cell] != fact.Of(9) {
			t.Error(c.about, told, x.Cells)
		}
		for n := int64(-9); n <= 9; n++ {
			w := &watcher{m: m, x: x}
			v := start(t, m, []int64{n})
			if not := w.watch(v, 100); not != "" {
				t.Error(c.about, n, not)
			}
			if got, ok := v.Result(); !ok || got != 9+n&3 || v.Cells()[c.cell] != got || v.Cells()[1-c.cell] != 9 || fmt.Sprint(v.Out()) != fmt.Sprint([]int64{got}) {
				t.Error(c.about, n, got, ok, v.Cells(), v.Out())
			}
		}
	}
}
