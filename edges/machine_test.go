package edges

import (
	"fmt"
	"math/rand"
	"slices"
	"testing"

	"averment/fact"
	"averment/fault"
	"averment/flow"
	"averment/ir"
	"averment/known"
	"averment/span"
	"averment/state"
	"averment/table"
	"averment/vm"
)

// oneOf is a number that v has; false: hardly any has it.
func oneOf(source *rand.Rand, v fact.Value) (int64, bool) {
	numbers := append(slices.Clone(edgeNumbers), v.Known.N, v.Span.Lo, v.Span.Hi, v.Span.Lo+1, v.Span.Hi-1)
	for n := int64(-4); n <= 4; n++ {
		numbers = append(numbers, n)
	}
	for _, i := range source.Perm(len(numbers)) {
		if fact.Has(v, numbers[i]) {
			return numbers[i], true
		}
	}
	return 0, false
}

// runs hands out machines, at the beginning of each function that is told to be Called, with arguments that its Args have.
func runs(t *testing.T, source *rand.Rand, m ir.Module, x table.Table, each func(v *vm.Machine)) {
	t.Helper()
	for f := range m.Funcs {
		if !x.Funcs[f].Sum.Called {
			continue
		}
		var args []int64
		for _, v := range x.Funcs[f].Sum.Args {
			if n, ok := oneOf(source, v); ok {
				args = append(args, n)
			}
		}
		if len(args) < m.Funcs[f].Arity {
			continue
		}
		v, e := vm.Start(m, f, args, someNumbers(source, source.Intn(12)))
		if e != nil {
			t.Fatal(fault.Text(e))
		}
		each(v)
	}
}

// innermost is the frame that goes on; false: it doesn't run any more.
func innermost(v *vm.Machine) (vm.Frame, bool) {
	frames := v.Frames()
	if v.How() != vm.Running {
		return vm.Frame{}, false
	}
	return frames[len(frames)-1], true
}

// watcher looks whether a machine does what a Table tells, and counts how often it looked.
type watcher struct {
	m                          ir.Module
	x                          table.Table
	frames, calls, results, ms int
}

// watch does steps, and tells what isn't as it is told: nothing, if all is.
func (w *watcher) watch(v *vm.Machine, steps int) string {
	w.ms++
	depth := 0
	for range steps {
		for c, n := range v.Cells() {
			if !fact.Has(w.x.Cells[c], n) {
				return fmt.Sprint("cell ", c, " has ", n)
			}
		}
		fr, ok := innermost(v)
		if !ok {
			return ""
		}
		if wrong := w.look(fr, len(v.Frames()) > depth); wrong != "" {
			return wrong
		}
		depth = len(v.Frames())
		v.Step()
	}
	return ""
}

// look looks at a frame: at a function's beginning, ahead of a block, and where it returns.
func (w *watcher) look(fr vm.Frame, fresh bool) string {
	fn, told := w.m.Funcs[fr.Func], w.x.Funcs[fr.Func]
	if fresh {
		w.calls++
		if !told.Sum.Called || !slices.EqualFunc(told.Sum.Args, fr.Regs[:fn.Arity], fact.Has) {
			return fmt.Sprint("it is called so: ", fr)
		}
	}
	if fr.Insn == 0 {
		w.frames++
		if !state.Has(told.Blocks[fr.Block].State, fr.Regs, fr.Last) {
			return fmt.Sprint("it comes there so: ", fr)
		}
	}
	block := fn.Blocks[fr.Block]
	if fr.Insn == len(block.Insns) && block.End.Op == ir.Return {
		w.results++
		if !told.Sum.Returns || !fact.Has(told.Sum.Result, fr.Regs[block.End.A]) {
			return fmt.Sprint("it returns so: ", fr)
		}
	}
	return ""
}

// P19.2, P5: where all follows, whatever a machine does is told: frames, cells, results.
func TestWhatFollowsIsSo(t *testing.T) {
	var all watcher
	wrong := 0
	some(t, 20, 1500, 0, func(source *rand.Rand, m ir.Module, x table.Table) {
		follows := Check(m, x) == nil
		w := &watcher{m: m, x: x}
		runs(t, source, m, x, func(v *vm.Machine) {
			if not := w.watch(v, 150); not != "" && follows {
				t.Fatal(not, m, x)
			} else if not != "" {
				wrong++
			}
		})
		if follows {
			all.ms, all.frames, all.calls, all.results = all.ms+w.ms, all.frames+w.frames, all.calls+w.calls, all.results+w.results
		}
	})
	if all.ms < 1500 || all.frames < 10000 || all.calls < 3000 || all.results < 1500 || wrong < 1000 {
		t.Error("too few", all.ms, all.frames, all.calls, all.results, wrong)
	}
}

// halving is a module: main halves a number until it is 0, and stores it. Its sites: main's registers 0 and 1, Call 2, Move 3; half's registers 4 and 5, Const 6, Div 7.
func halving() ir.Module {
	return ir.Module{Cells: []int64{0}, Funcs: []ir.Func{
		fn("main", 1, 2,
			block(jump(1)),
			block(branch(0, 2, 3)),
			block(jump(1), call(1, 1, 0), store(1, 0), ir.Insn{Op: ir.Move, D: 0, A: 1}),
			block(back(1))),
		fn("half", 1, 2, block(back(0), number(1, 2), two(ir.Div, 0, 0, 1))),
	}}
}

// halved is a Table of halving that follows, of numbers from 0 to 8.
func halved() table.Table {
	up := func(hi int64) fact.Value {
		return fact.Value{Sign: 6, Known: known.Any(), Span: span.Span{Lo: 0, Hi: hi}, Parity: 3}
	}
	above := fact.Value{Sign: 4, Known: known.Any(), Span: span.Span{Lo: 1, Hi: 8}, Parity: 3}
	zero := fact.Of(0)
	return table.Table{Cells: []fact.Value{up(4)}, Funcs: []table.Func{
		{Sum: flow.Sum{Called: true, Args: []fact.Value{up(8)}, Returns: true, Result: up(4)}, Blocks: []table.Block{
			{State: having(up(8), set{0}, zero, set{1}), Live: set{0, 1}},
			{State: having(up(8), set{0, 3}, up(4), set{1, 2}), Live: set{0, 1}},
			{State: having(above, set{0, 3}, up(4), set{1, 2}), Live: set{0}},
			{State: having(zero, set{0, 3}, up(4), set{1, 2}), Live: set{1}},
		}},
		{Sum: flow.Sum{Called: true, Args: []fact.Value{above}, Returns: true, Result: up(4)}, Blocks: []table.Block{
			{State: having(above, set{4}, zero, set{5}), Live: set{0}},
		}},
	}}
}

// P19.2: a loop by hand that ends: what follows is so of all arguments; what doesn't follow isn't so of some.
func TestALoopIsSo(t *testing.T) {
	seven := fact.Of(7)
	for _, c := range []struct {
		about, want string
		change      func(x *table.Table)
	}{
		{"all follows", "ok", func(x *table.Table) {}},
		{"a cell has less", "1.0.2.1 edge", func(x *table.Table) { x.Cells[0].Span.Hi = 3 }},
		{"a site less", "1.0.2.3 edge", func(x *table.Table) { x.Funcs[0].Blocks[1].State.Sites[0] = set{0} }},
		{"a number less", "1.0.0.0 edge", func(x *table.Table) { x.Funcs[0].Blocks[1].State.Vals[0].Span.Hi = 7 }},
		{"nobody comes behind the loop", "1.0.1.0 edge", func(x *table.Table) { x.Funcs[0].Blocks[3].State = state.None() }},
		{"an argument less", "1.0.2.0 edge", func(x *table.Table) { x.Funcs[1].Sum.Args[0].Span.Hi = 7 }},
		{"half isn't Called", "1.0.2.0 edge", func(x *table.Table) { x.Funcs[1].Sum.Called, x.Funcs[1].Sum.Args = false, nil }},
		{"half's Result", "1.1.0.2 edge", func(x *table.Table) { x.Funcs[1].Sum.Result.Parity = 2 }},
		{"main's Result", "1.0.3.0 edge", func(x *table.Table) { x.Funcs[0].Sum.Result = seven }},
	} {
		x := halved()
		c.change(&x)
		wantEdge(t, c.about, halving(), x, c.want)
		wrong := 0
		for n := int64(0); n <= 8; n++ {
			v, e := vm.Start(halving(), 0, []int64{n}, nil)
			if e != nil {
				t.Fatal(fault.Text(e))
			}
			w := &watcher{m: halving(), x: x}
			if not := w.watch(v, 200); not != "" {
				wrong++
			} else if v.How() != vm.Done {
				t.Error("it doesn't end", n)
			}
		}
		if (wrong > 0) != (c.want != "ok") {
			t.Errorf("%s: wrong %d times", c.about, wrong)
		}
	}
}

// end runs a machine, and tells all that is to be seen of how it goes out and ends, and whether it ended.
func end(v *vm.Machine) (string, bool) {
	v.Run(300)
	n, ok := v.Result()
	return fmt.Sprint(v.How(), n, ok, v.Out(), v.Cells(), v.Left()), v.How() != vm.Running
}

// P19.3, P5: where all follows, another number in a register that doesn't count makes no difference.
func TestWhatDoesntCount(t *testing.T) {
	ended, changed := 0, 0
	some(t, 21, 250, 0, func(source *rand.Rand, m ir.Module, x table.Table) {
		if Check(m, x) != nil {
			return
		}
		runs(t, source, m, x, func(v *vm.Machine) {
			for range 30 {
				fr, ok := innermost(v)
				if !ok {
					return
				}
				if fr.Insn == 0 {
					more, less := poke(t, source, v, fr, x.Funcs[fr.Func].Blocks[fr.Block].Live)
					ended, changed = ended+more, changed+less
				}
				v.Step()
			}
		})
	})
	if ended < 1500 || changed < 500 {
		t.Error("too few", ended, changed)
	}
}

// poke runs on with another number in each register, one by one: how many of those that don't count ended, and how many of the others made a difference?
func poke(t *testing.T, source *rand.Rand, v *vm.Machine, fr vm.Frame, live []int) (ended, changed int) {
	t.Helper()
	want, isEnd := end(v.Copy())
	for r, old := range fr.Regs {
		other := v.Copy()
		if !other.Poke(r, old^someNumber(source)^1<<20) {
			t.Fatal(r)
		}
		got, _ := end(other)
		switch {
		case slices.Contains(live, r) && got != want:
			changed++
		case !slices.Contains(live, r) && got != want:
			t.Fatal(fr, live, r, "got", got, "want", want)
		case !slices.Contains(live, r) && isEnd:
			ended++
		}
	}
	return ended, changed
}

// P19.3: other numbers in all registers that don't count, ahead of each block on the way.
func TestWhatDoesntCountAgainAndAgain(t *testing.T) {
	ended := 0
	some(t, 22, 400, 0, func(source *rand.Rand, m ir.Module, x table.Table) {
		if Check(m, x) != nil {
			return
		}
		runs(t, source, m, x, func(v *vm.Machine) {
			want, isEnd := end(v.Copy())
			for range 200 {
				fr, ok := innermost(v)
				if !ok {
					break
				}
				for r := range fr.Regs {
					if fr.Insn == 0 && !slices.Contains(x.Funcs[fr.Func].Blocks[fr.Block].Live, r) {
						v.Poke(r, someNumber(source))
					}
				}
				v.Step()
			}
			if got, _ := end(v); isEnd && got != want {
				t.Fatal(m, x, "got", got, "want", want)
			}
			if isEnd {
				ended++
			}
		})
	})
	if ended < 300 {
		t.Error("too few", ended)
	}
}
