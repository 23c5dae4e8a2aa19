package reload

import (
	"fmt"
	"math/rand"
	"testing"

	"averment/api"
	"averment/bits"
	"averment/cfg"
	"averment/edges"
	"averment/fact"
	"averment/fault"
	"averment/flow"
	"averment/ir"
	"averment/live"
	"averment/state"
	"averment/table"
)

// model is Fill, made otherwise: it asks of each block what comes there, and goes on to the end, whatever doesn't follow.
type model struct {
	m      ir.Module
	x      table.Table
	sparse bool
	places []string
	counts Counts
}

func (w *model) tell(follows bool, place ...int) {
	if !follows {
		w.places = append(w.places, fault.Text(fault.At(api.ErrEdge, place...)))
	}
}

// isMade tells whether what is told at a block is made.
func (w *model) isMade(f, b int) bool {
	if !w.sparse || b == 0 {
		return false
	}
	for a := b; a < len(w.m.Funcs[f].Blocks); a++ {
		for _, to := range ir.Targets(w.m.Funcs[f].Blocks[a].End) {
			if to == b {
				return false
			}
		}
	}
	return true
}

// modelOf is what Fill answers of a Table in normal form.
func modelOf(m ir.Module, x table.Table, sparse bool) answer {
	w := &model{m: m, x: table.Copy(x), sparse: sparse}
	for c, n := range m.Cells {
		w.counts.Cells++
		w.tell(fact.Has(x.Cells[c], n), 0, c)
	}
	for f, fn := range m.Funcs {
		w.tell(fn.Name != "main" || fn.Arity > 0 || x.Funcs[f].Sum.Called, 1, f)
	}
	for f := range m.Funcs {
		w.function(f)
	}
	if len(w.places) > 0 {
		return answer{E: w.places[0]}
	}
	return answer{w.x, w.counts, "ok"}
}

func (w *model) function(f int) {
	fn, told := w.m.Funcs[f], w.x.Funcs[f]
	for b := range fn.Blocks {
		if w.isMade(f, b) {
			told.Blocks[b].State = w.comes(f, b)
		}
	}
	// Lives grow from nothing until nothing changes, in whatever order.
	for range fn.Blocks {
		for b := range fn.Blocks {
			if w.isMade(f, b) {
				told.Blocks[b].Live = live.Block(fn, b, live.After(fn, b, livesOf(told)))
			}
		}
	}
	if told.Sum.Called {
		w.counts.Begins++
		w.tell(state.Within(state.Begin(fn.Regs, told.Sum.Args, ir.First(w.m, f)), told.Blocks[0].State), 1, f)
	}
	for b := range fn.Blocks {
		w.block(f, b)
	}
	for back := range fn.Blocks {
		if b := len(fn.Blocks) - 1 - back; !w.isMade(f, b) {
			w.counts.Lives++
			w.tell(bits.Within(live.Block(fn, b, live.After(fn, b, livesOf(told))), told.Blocks[b].Live), 1, f, b)
		}
	}
}

// comes is what comes to a block from those ahead of it, the last one first.
func (w *model) comes(f, b int) state.State {
	s := state.None()
	for a := b - 1; a >= 0; a-- {
		for _, e := range flow.Block(table.Env(w.m, w.x), f, a, w.x.Funcs[f].Blocks[a].State).Edges {
			if e.To == b {
				s = state.Join(e.State, s)
			}
		}
	}
	return s
}

func (w *model) block(f, b int) {
	env, told := table.Env(w.m, w.x), w.x.Funcs[f]
	end := len(w.m.Funcs[f].Blocks[b].Insns)
	w.counts.Insns += end
	out := flow.Block(env, f, b, told.Blocks[b].State)
	for _, n := range out.Needs {
		if n.Store {
			w.counts.Stores++
			w.tell(fact.Within(n.Vals[0], env.Cells[n.To]), 1, f, b, n.Insn)
			continue
		}
		w.counts.Calls++
		follows := env.Sums[n.To].Called
		for i, v := range n.Vals {
			follows = follows && fact.Within(v, env.Sums[n.To].Args[i])
		}
		w.tell(follows, 1, f, b, n.Insn)
	}
	for _, e := range out.Edges {
		if !w.isMade(f, e.To) {
			w.counts.Edges++
			w.tell(state.Within(e.State, told.Blocks[e.To].State), 1, f, b, end)
		}
	}
	if out.Returns {
		w.counts.Returns++
		w.tell(told.Sum.Returns && fact.Within(out.Result, told.Sum.Result), 1, f, b, end)
	}
}

// P20.1, P20.2, P20.4: of modules by chance, whole and sparse: what is made, counted, told to be wrong; what is taken follows.
func TestAgainstTheModel(t *testing.T) {
	var taken, refused, made [2]int
	some(t, 20, 1200, 2, func(_ *rand.Rand, m ir.Module, x table.Table) {
		for i, sparse := range []bool{false, true} {
			if sparse {
				x = table.Sparse(m, x)
			}
			got, want := fill(m, x, sparse), modelOf(m, x, sparse)
			if fmt.Sprint(got) != fmt.Sprint(want) {
				t.Fatalf("%v, %v: got %v, want %v", m, x, got, want)
			}
			if got.E != "ok" {
				refused[i]++
				continue
			}
			taken[i]++
			if e := edges.Check(m, got.X); e != nil {
				t.Fatal("what is taken doesn't follow", fault.Text(e), m, x, got)
			}
			if !table.Equal(got.X, x) {
				made[i]++
			}
		}
	})
	if min(taken[0], taken[1], refused[0], refused[1], made[1]) < 1000 || made[0] > 0 {
		t.Error("too few", taken, refused, made)
	}
}

// P20.1: a whole Table has an error just if edges.Check has.
func TestWholeIsEdges(t *testing.T) {
	some(t, 21, 800, 2, func(_ *rand.Rand, m ir.Module, x table.Table) {
		_, _, e := Fill(m, x, false)
		if (e == nil) != (edges.Check(m, x) == nil) {
			t.Fatal(fault.Text(e), fault.Text(edges.Check(m, x)), m, x)
		}
	})
}

// P20.3, P6: of a Table that follows both are taken: the whole one yields it, the sparse one what is within it, and the same at cut points, of cells and Sums.
func TestBothAreTaken(t *testing.T) {
	follow, less := 0, 0
	some(t, 22, 1200, 2, func(_ *rand.Rand, m ir.Module, x table.Table) {
		if edges.Check(m, x) != nil {
			return
		}
		follow++
		whole := fill(m, x, false)
		if whole.E != "ok" || !table.Equal(whole.X, x) {
			t.Fatal("whole", m, x, whole)
		}
		cuts := fill(m, table.Sparse(m, x), true)
		if cuts.E != "ok" || !table.Within(cuts.X, x) {
			t.Fatal("sparse", m, x, cuts)
		}
		if !table.Equal(cuts.X, x) {
			less++
		}
		for f, fn := range m.Funcs {
			for _, b := range cfg.Cuts(fn) {
				if fmt.Sprint(cuts.X.Funcs[f].Blocks[b]) != fmt.Sprint(x.Funcs[f].Blocks[b]) {
					t.Fatal("a cut point", f, b, m, x, cuts)
				}
			}
		}
		if fmt.Sprint(table.Env(m, cuts.X)) != fmt.Sprint(table.Env(m, x)) {
			t.Fatal("cells and Sums", m, x, cuts)
		}
		// What it yields is taken again, whole and sparse, and yields the same.
		again := fill(m, cuts.X, false)
		if again.E != "ok" || !table.Equal(again.X, cuts.X) || fmt.Sprint(fill(m, table.Sparse(m, cuts.X), true)) != fmt.Sprint(cuts) {
			t.Fatal("again", m, x, cuts)
		}
	})
	if follow < 1200 || less < 300 {
		t.Error("too few", follow, less)
	}
}

// P20.3: of Any, too.
func TestAnyIsTaken(t *testing.T) {
	source := rand.New(rand.NewSource(23))
	for range 500 {
		m := someModule(t, source, 2)
		x := table.Any(m)
		if got := fill(m, x, false); got.E != "ok" || !table.Equal(got.X, x) {
			t.Fatal(m, got)
		}
		if got := fill(m, table.Sparse(m, x), true); got.E != "ok" || !table.Within(got.X, x) {
			t.Fatal(m, got)
		}
	}
}
