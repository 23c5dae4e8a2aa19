package solve

import (
	"fmt"
	"math/rand"
	"testing"

	"averment/annot"
	"averment/bits"
	"averment/edges"
	"averment/fact"
	"averment/fault"
	"averment/flow"
	"averment/ir"
	"averment/known"
	"averment/live"
	"averment/reach"
	"averment/reload"
	"averment/span"
	"averment/state"
	"averment/table"
)

// model finds a Table as the chapter says it, an instruction and a register at a time, and counts how often something grew.
type model struct {
	m     ir.Module
	x     table.Table
	grows int
}

// begun is the model ahead of its first round.
func begun(m ir.Module, roots []int) *model {
	w := &model{m: m, x: table.Table{Imports: make([]flow.Sum, len(m.Imports))}}
	for _, n := range m.Cells {
		w.x.Cells = append(w.x.Cells, fact.Of(n))
	}
	for f, fn := range m.Funcs {
		told := table.Func{Blocks: make([]table.Block, len(fn.Blocks))}
		told.Sum.Called = fn.Name == "main" && fn.Arity == 0
		for _, r := range roots {
			told.Sum.Called = told.Sum.Called || r == f
		}
		if told.Sum.Called {
			for range fn.Arity {
				told.Sum.Args = append(told.Sum.Args, fact.Any())
			}
		}
		w.x.Funcs = append(w.x.Funcs, told)
	}
	for i := range w.x.Imports {
		w.x.Imports[i].Returns, w.x.Imports[i].Result = true, fact.Any()
	}
	return w
}

// room makes room in v for more, and tells whether it grew.
func room(v *fact.Value, more fact.Value) bool {
	j := fact.Join(*v, more)
	if j == *v {
		return false
	}
	if j.Span.Lo < v.Span.Lo {
		j.Span.Lo = span.Least
	}
	if j.Span.Hi > v.Span.Hi {
		j.Span.Hi = span.Greatest
	}
	*v = j
	return true
}

func (w *model) grow(v *fact.Value, more fact.Value) {
	if room(v, more) {
		w.grows++
	}
}

// growState makes room in s for more.
func (w *model) growState(s *state.State, more state.State) {
	if !more.Reached {
		return
	}
	if !s.Reached {
		*s = state.Copy(more)
		w.grows++
		return
	}
	grew := false
	for r := range s.Vals {
		grew = room(&s.Vals[r], more.Vals[r]) || grew
		union := bits.Union(s.Sites[r], more.Sites[r])
		grew = grew || len(union) > len(s.Sites[r])
		s.Sites[r] = union
	}
	if grew {
		w.grows++
	}
}

// isCut tells whether one goes on to block b from one that isn't ahead of it.
func isCut(f ir.Func, b int) bool {
	for from := b; from < len(f.Blocks); from++ {
		for _, to := range ir.Targets(f.Blocks[from].End) {
			if to == b {
				return true
			}
		}
	}
	return b == 0
}

func (w *model) round() {
	for f, fn := range w.m.Funcs {
		told := &w.x.Funcs[f]
		if told.Sum.Called {
			w.growState(&told.Blocks[0].State, state.Begin(fn.Regs, told.Sum.Args, ir.First(w.m, f)))
		}
		for b := range fn.Blocks {
			if !isCut(fn, b) {
				told.Blocks[b].State = state.None()
			}
		}
		for b := range fn.Blocks {
			w.block(f, b)
		}
	}
}

// block goes through a block, by what is told at its beginning.
func (w *model) block(f, b int) {
	env := table.Env(w.m, w.x)
	s := state.Copy(w.x.Funcs[f].Blocks[b].State)
	for i, x := range w.m.Funcs[f].Blocks[b].Insns {
		if !s.Reached {
			return
		}
		switch x.Op {
		case ir.Store:
			w.grow(&w.x.Cells[x.B], s.Vals[x.A])
		case ir.Call:
			w.call(x, s)
		}
		s, _ = flow.Insn(env, f, b, i, s)
	}
	if s.Reached {
		w.end(f, w.m.Funcs[f].Blocks[b].End, s)
	}
}

func (w *model) call(x ir.Insn, s state.State) {
	sum := w.sum(x.B)
	if !sum.Called {
		sum.Called = true
		w.grows++
		for _, r := range x.Args {
			sum.Args = append(sum.Args, s.Vals[r])
		}
		return
	}
	for i, r := range x.Args {
		w.grow(&sum.Args[i], s.Vals[r])
	}
}

func (w *model) sum(f int) *flow.Sum {
	if f < len(w.m.Funcs) {
		return &w.x.Funcs[f].Sum
	}
	return &w.x.Imports[f-len(w.m.Funcs)]
}

func (w *model) end(f int, e ir.End, s state.State) {
	sum := &w.x.Funcs[f].Sum
	switch {
	case e.Op == ir.Return && sum.Returns:
		w.grow(&sum.Result, s.Vals[e.A])
	case e.Op == ir.Return:
		sum.Returns, sum.Result = true, s.Vals[e.A]
		w.grows++
	case e.Op == ir.Jump || e.To == e.Else:
		w.edge(f, e.To, s)
	default:
		w.edge(f, e.To, state.Branch(s, e.A, true))
		w.edge(f, e.Else, state.Branch(s, e.A, false))
	}
}

func (w *model) edge(f, to int, s state.State) {
	if told := &w.x.Funcs[f].Blocks[to].State; isCut(w.m.Funcs[f], to) {
		w.growState(told, s)
	} else {
		*told = state.Join(*told, s)
	}
}

// found does rounds, and counts them.
func (w *model) found() int {
	for rounds := 1; ; rounds++ {
		ahead := table.Copy(w.x)
		w.round()
		if table.Equal(ahead, w.x) {
			w.lives()
			return rounds
		}
	}
}

// lives finds the least that counts, from nothing on.
func (w *model) lives() {
	for f, fn := range w.m.Funcs {
		sets := make([][]int, len(fn.Blocks))
		for range len(fn.Blocks) * fn.Regs {
			for b := range sets {
				sets[b] = bits.Union(sets[b], live.Block(fn, b, live.After(fn, b, sets)))
			}
		}
		for b := range sets {
			w.x.Funcs[f].Blocks[b].Live = sets[b]
		}
	}
}

// P21.1, P21.3, P7: of modules by chance: the Table, the steps; never more than Height is grown, nor more than Bound done.
func TestAgainstTheModel(t *testing.T) {
	rounds := make(map[int]int)
	some(t, 1, 2000, 3, func(source *rand.Rand, m ir.Module, roots []int) {
		w := begun(m, roots)
		n := w.found()
		rounds[min(n, 5)]++
		steps, bound := n*countBlocks(m), Bound(m)
		want := answer{w.x, steps, "ok"}
		for _, budget := range []int{bound, steps} {
			if got := solve(m, roots, budget); fmt.Sprint(got) != fmt.Sprint(want) {
				t.Fatal(m, roots, budget, "got", got, "want", want)
			}
		}
		wantError(t, "a step less", m, roots, steps-1, "budget")
		wantError(t, "by chance", m, roots, source.Intn(steps), "budget")
		if w.grows > Height(m) || steps > bound || t.Failed() {
			t.Fatal(m, roots, w.grows, steps)
		}
	})
	for n := 1; n <= 5; n++ {
		if rounds[n] < 60 {
			t.Error("too few of so many rounds", n, rounds)
		}
	}
}

// P21.2, P5, P6, P7: of what is found all follows; both its files are taken, and yield it.
func TestWhatIsFoundIsTaken(t *testing.T) {
	some(t, 2, 1500, 3, func(_ *rand.Rand, m ir.Module, roots []int) {
		x, _, e := Solve(m, roots, Bound(m))
		if e != nil {
			t.Fatal(m, roots, fault.Text(e))
		}
		if e := edges.Check(m, x); e != nil {
			t.Fatal(m, roots, fault.Text(e))
		}
		for _, sparse := range []bool{false, true} {
			told := x
			if sparse {
				told = table.Sparse(m, x)
			}
			b, e := annot.Write(m, told, sparse)
			if e != nil {
				t.Fatal(m, roots, sparse, fault.Text(e))
			}
			n, y, _, e := reload.Load(b)
			// What isn't told at the other blocks is made of what comes there, just as it was found.
			if e != nil || !ir.Equal(m, n) || !table.Equal(x, y) {
				t.Fatal(m, roots, sparse, fault.Text(e), "got", y, "want", x)
			}
		}
	})
}

// P21.2: all that is handed in beside m is told: main and the roots are called, cells have what they begin with, imports return anything.
func TestWhatIsToldOfTheBeginning(t *testing.T) {
	some(t, 3, 800, 3, func(_ *rand.Rand, m ir.Module, roots []int) {
		x, _, _ := Solve(m, roots, Bound(m))
		if begin := begun(m, roots).x; !table.Within(begin, x) || !table.Within(table.None(m), x) || !table.Within(x, table.Any(m)) {
			t.Fatal(m, roots, x)
		}
		for _, s := range x.Imports {
			if !s.Returns || s.Result != fact.Any() {
				t.Fatal(m, roots, x)
			}
		}
	})
}

// P21.4: no register's set has a site that no way leads to, at no block.
func TestSites(t *testing.T) {
	sites := 0
	some(t, 4, 1500, 3, func(_ *rand.Rand, m ir.Module, roots []int) {
		x, _, _ := Solve(m, roots, Bound(m))
		for f, told := range x.Funcs {
			sets := reach.Solve(m, f)
			for b, block := range told.Blocks {
				for r, set := range block.State.Sites {
					if !bits.Within(set, sets[b][r]) {
						t.Fatal(m, roots, f, b, r, "got", set, "of", sets[b][r])
					}
					sites += len(set)
				}
			}
		}
	})
	if sites < 10000 {
		t.Error("too few", sites)
	}
}

// P21.4: where all ways are gone, the sets are just those of the graph.
func TestSitesOfAllWays(t *testing.T) {
	m := ways()
	x, _, _ := Solve(m, nil, Bound(m))
	for b, sets := range reach.Solve(m, 0) {
		if b != 6 && fmt.Sprint(x.Funcs[0].Blocks[b].State.Sites) != fmt.Sprint(sets) {
			t.Error(b, x.Funcs[0].Blocks[b].State.Sites, sets)
		}
	}
	// Nobody goes the way that a Branch on 1 doesn't: so its site isn't told, though the graph has it.
	m = ir.Module{Funcs: []ir.Func{fn("main", 0, 1,
		block(branch(0, 1, 2), number(0, 1)),
		block(jump(3)),
		block(jump(3), number(0, 2)),
		block(back(0)))}}
	x, _, _ = Solve(m, nil, Bound(m))
	if got, graph := x.Funcs[0].Blocks[3].State.Sites, reach.Solve(m, 0)[3]; fmt.Sprint(got, graph) != "[[1]] [[1 2]]" {
		t.Error(got, graph)
	}
}

// P21.1: that a number is known goes on as long as it is: a value that isn't grown stays as it came.
func TestWhatStaysKnown(t *testing.T) {
	m := ir.Module{Cells: []int64{4}, Funcs: []ir.Func{fn("main", 0, 2,
		block(jump(1), load(0, 0)),
		block(branch(1, 1, 2), input(1), store(0, 0), load(0, 0)),
		block(back(0)))}}
	four := fact.Of(4)
	x := wantSums(t, "stored again and again", m, nil, 2, []fact.Value{four}, returning(called(), four))
	if v := x.Funcs[0].Blocks[1].State.Vals[0]; v.Known != known.Of(4) {
		t.Error(v)
	}
}
