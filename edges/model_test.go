package edges

import (
	"math/rand"
	"strings"
	"testing"

	"averment/api"
	"averment/fact"
	"averment/fault"
	"averment/flow"
	"averment/ir"
	"averment/state"
	"averment/table"
)

// model finds all places at which something doesn't follow, in the chapter's order, one instruction at a time.
type model struct {
	m      ir.Module
	x      table.Table
	places []string
}

func (w *model) tell(follows bool, place ...int) {
	if !follows {
		w.places = append(w.places, fault.Text(fault.At(api.ErrEdge, place...)))
	}
}

// placesOf are the places of a Table in normal form.
func placesOf(m ir.Module, x table.Table) []string {
	w := &model{m: m, x: x}
	for c, n := range m.Cells {
		w.tell(fact.Has(x.Cells[c], n), 0, c)
	}
	for f, fn := range m.Funcs {
		w.tell(fn.Name != "main" || fn.Arity > 0 || x.Funcs[f].Sum.Called, 1, f)
	}
	for f, fn := range m.Funcs {
		w.tell(!x.Funcs[f].Sum.Called || w.begins(f), 1, f)
		for b := range fn.Blocks {
			w.block(f, b)
			w.tell(w.lives(f, b), 1, f, b)
		}
	}
	return w.places
}

// begins tells whether f's beginning is told, register by register.
func (w *model) begins(f int) bool {
	s, args := w.x.Funcs[f].Blocks[0].State, w.x.Funcs[f].Sum.Args
	for r := range w.m.Funcs[f].Regs {
		first := fact.Of(0)
		if r < len(args) {
			first = args[r]
		}
		if !s.Reached || !fact.Within(first, s.Vals[r]) || !contains(s.Sites[r], ir.First(w.m, f)+r) {
			return false
		}
	}
	return true
}

func contains(list []int, x int) bool {
	for _, y := range list {
		if x == y {
			return true
		}
	}
	return false
}

// block goes through a block to which somebody comes.
func (w *model) block(f, b int) {
	env := table.Env(w.m, w.x)
	s := w.x.Funcs[f].Blocks[b].State
	insns := w.m.Funcs[f].Blocks[b].Insns
	for i, x := range insns {
		if !s.Reached {
			return
		}
		switch x.Op {
		case ir.Store:
			w.tell(fact.Within(s.Vals[x.A], w.x.Cells[x.B]), 1, f, b, i)
		case ir.Call:
			w.tell(takes(env.Sums[x.B], s, x.Args), 1, f, b, i)
		}
		s, _ = flow.Insn(env, f, b, i, s)
	}
	if s.Reached {
		w.end(f, b, s)
	}
}

// takes tells whether a function is told to be Called with what the registers have.
func takes(sum flow.Sum, s state.State, regs []int) bool {
	for i, r := range regs {
		if !sum.Called || !fact.Within(s.Vals[r], sum.Args[i]) {
			return false
		}
	}
	return sum.Called
}

// end looks at where a block goes on, or what it returns.
func (w *model) end(f, b int, s state.State) {
	e, told := w.m.Funcs[f].Blocks[b].End, w.x.Funcs[f]
	place := []int{1, f, b, len(w.m.Funcs[f].Blocks[b].Insns)}
	switch {
	case e.Op == ir.Return:
		w.tell(told.Sum.Returns && fact.Within(s.Vals[e.A], told.Sum.Result), place...)
	case e.Op == ir.Jump, e.To == e.Else:
		w.tell(state.Within(s, told.Blocks[e.To].State), place...)
	default:
		w.tell(state.Within(state.Branch(s, e.A, true), told.Blocks[e.To].State), place...)
		w.tell(state.Within(state.Branch(s, e.A, false), told.Blocks[e.Else].State), place...)
	}
}

// lives tells whether all registers that count ahead of a block are told to.
func (w *model) lives(f, b int) bool {
	block := w.m.Funcs[f].Blocks[b]
	var counts [api.MaxRegs]bool
	for _, to := range ir.Targets(block.End) {
		for _, r := range w.x.Funcs[f].Blocks[to].Live {
			counts[r] = true
		}
	}
	for _, r := range ir.Reads(block.End) {
		counts[r] = true
	}
	for i := len(block.Insns) - 1; i >= 0; i-- {
		if d, sets := ir.Sets(block.Insns[i]); sets {
			counts[d] = false
		}
		for _, r := range ir.Uses(block.Insns[i]) {
			counts[r] = true
		}
	}
	for r, is := range counts {
		if is && !contains(w.x.Funcs[f].Blocks[b].Live, r) {
			return false
		}
	}
	return true
}

// P19.1: of modules by chance, with Tables that follow, nearly follow, or don't.
func TestAgainstTheModel(t *testing.T) {
	kinds := make(map[string]int)
	some(t, 19, 1500, 3, func(_ *rand.Rand, m ir.Module, x table.Table) {
		want := "ok"
		if places := placesOf(m, x); len(places) > 0 {
			want = places[0]
		}
		wantEdge(t, "by chance", m, x, want)
		if t.Failed() {
			t.Fatal(m, x)
		}
		kinds[want[:1]+strings.Repeat(".", strings.Count(want, "."))]++
	})
	for _, kind := range []string{"o", "0.", "1.", "1..", "1..."} {
		if kinds[kind] < 200 {
			t.Error("too few", kind, kinds)
		}
	}
}

// P19.1: what is grown until the model has no place left follows.
func TestWhatIsGrownFollows(t *testing.T) {
	source := rand.New(rand.NewSource(3))
	for range 600 {
		m := someModule(t, source, 3)
		for _, seed := range []table.Table{table.None(m), someSeed(source, m), someTable(source, m)} {
			x := grown(t, m, seed)
			wantEdge(t, "grown", m, x, "ok")
			if places := placesOf(m, x); len(places) > 0 || !table.Within(seed, x) {
				t.Fatal(places, m, x)
			}
		}
	}
}

// P19.4: Any follows, of modules by chance.
func TestAnyOfSomeModules(t *testing.T) {
	source := rand.New(rand.NewSource(4))
	for range 1500 {
		m := someModule(t, source, 3)
		wantEdge(t, "Any", m, table.Any(m), "ok")
	}
}
