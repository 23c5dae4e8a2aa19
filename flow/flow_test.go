package flow

import (
	"fmt"
	"math"
	"math/rand"
	"slices"
	"testing"

	"averment/fact"
	"averment/ir"
	"averment/known"
	"averment/span"
	"averment/state"
)

// from is a Value that tells nothing but a Span.
func from(lo, hi int64) fact.Value {
	v := fact.Any()
	v.Span = span.Span{Lo: lo, Hi: hi}
	return v
}

// of are the Values of numbers.
func of(numbers ...int64) []fact.Value {
	var vals []fact.Value
	for _, n := range numbers {
		vals = append(vals, fact.Of(n))
	}
	return vals
}

// having is Reached, with these Values, register r from site r alone.
func having(vals ...fact.Value) state.State {
	return state.Begin(len(vals), vals, 0)
}

// returns is a Sum that tells what is returned, and nothing else.
func returns(v fact.Value) Sum { return Sum{Returns: true, Result: v} }

// three is a module whose function 1 has three registers and these blocks: its sites are 2 to 4, and from 5 on.
func three(blocks ...ir.Block) Env {
	return Env{
		Module: ir.Module{
			Cells: []int64{0, 0},
			Funcs: []ir.Func{
				{Name: "g", Arity: 2, Regs: 2, Blocks: []ir.Block{{End: ir.End{Op: ir.Return}}}},
				{Name: "f", Arity: 0, Regs: 3, Blocks: blocks},
			},
			Imports: []ir.Import{{Name: "h", Arity: 1}, {Name: "i"}},
		},
		Cells: []fact.Value{from(-4, 4), fact.Of(6)},
		Sums:  []Sum{returns(from(5, 9)), {}, returns(fact.Of(8)), {}},
	}
}

// block is one that returns register 0 behind its instructions.
func block(insns ...ir.Insn) ir.Block {
	return ir.Block{Insns: insns, End: ir.End{Op: ir.Return}}
}

// wantState holds a State against another one.
func wantState(t *testing.T, what string, got, want state.State) {
	t.Helper()
	if !state.Equal(got, want) {
		t.Errorf("%s: got %v, want %v", what, got, want)
	}
}

// wantNeeds holds Needs against others.
func wantNeeds(t *testing.T, what string, got []Need, want ...Need) {
	t.Helper()
	if fmt.Sprint(got) != fmt.Sprint(want) {
		t.Errorf("%s: got %v, want %v", what, got, want)
	}
}

// wantOut holds an Out against another one, part by part.
func wantOut(t *testing.T, what string, got, want Out) {
	t.Helper()
	if fmt.Sprint(got) != fmt.Sprint(want) {
		t.Errorf("%s: got %v, want %v", what, got, want)
	}
}

// P14.1: Fits.
func TestFits(t *testing.T) {
	if !Fits(Env{}) {
		t.Error("the module without anything")
	}
	made := func() Env {
		e := three(block())
		e.Sums = []Sum{
			{Called: true, Args: of(1, 2), Returns: true, Result: fact.Any()},
			{Called: true},
			{Called: true, Args: of(3)},
			returns(fact.Of(0)),
		}
		return e
	}
	if !Fits(made()) || !Fits(three(block())) {
		t.Error("what is right")
	}
	bad := fact.Any()
	bad.Parity = 0
	for about, change := range map[string]func(e *Env){
		"no blocks":                     func(e *Env) { e.Module.Funcs[1].Blocks = nil },
		"a name":                        func(e *Env) { e.Module.Imports[1].Name = "" },
		"no such register":              func(e *Env) { e.Module.Funcs[0].Blocks[0].End.A = 2 },
		"fewer cells":                   func(e *Env) { e.Cells = e.Cells[:1] },
		"more cells":                    func(e *Env) { e.Cells = append(e.Cells, fact.Any()) },
		"no cells":                      func(e *Env) { e.Cells = nil },
		"a cell that isn't Right":       func(e *Env) { e.Cells[1] = bad },
		"a first cell that isn't":       func(e *Env) { e.Cells[0] = fact.Value{} },
		"fewer Sums":                    func(e *Env) { e.Sums = e.Sums[:3] },
		"Sums of functions alone":       func(e *Env) { e.Sums = e.Sums[:2] },
		"more Sums":                     func(e *Env) { e.Sums = append(e.Sums, Sum{}) },
		"no Sums":                       func(e *Env) { e.Sums = nil },
		"fewer Args":                    func(e *Env) { e.Sums[0].Args = of(1) },
		"more Args":                     func(e *Env) { e.Sums[0].Args = of(1, 2, 3) },
		"no Args":                       func(e *Env) { e.Sums[0].Args = nil },
		"Args of one that takes none":   func(e *Env) { e.Sums[1].Args = of(1) },
		"Args of an import":             func(e *Env) { e.Sums[2].Args = of(1, 2) },
		"Args, not Called":              func(e *Env) { e.Sums[0].Called = false },
		"an import's Args, not Called":  func(e *Env) { e.Sums[2].Called = false },
		"an argument that isn't Right":  func(e *Env) { e.Sums[0].Args[1] = bad },
		"a first argument that isn't":   func(e *Env) { e.Sums[0].Args[0] = from(1, 0) },
		"an import's argument":          func(e *Env) { e.Sums[2].Args[0] = bad },
		"a Result that isn't Right":     func(e *Env) { e.Sums[0].Result = bad },
		"a Result that is zero":         func(e *Env) { e.Sums[0].Result = fact.Value{} },
		"an import's Result":            func(e *Env) { e.Sums[3].Result = bad },
		"a Result, doesn't Return":      func(e *Env) { e.Sums[0].Returns = false },
		"a Result of 0, doesn't Return": func(e *Env) { e.Sums[1].Result = fact.Of(0) },
		"a Result's Sign alone":         func(e *Env) { e.Sums[1].Result.Sign = 1 },
		"an import's, doesn't Return":   func(e *Env) { e.Sums[3].Returns = false },
	} {
		e := made()
		change(&e)
		if Fits(e) {
			t.Error(about)
		}
	}
}

// P14.1: each Op, with what D gets at its site, and what must follow elsewhere.
func TestInsn(t *testing.T) {
	a, b := from(0, 3), fact.Of(2)
	s := having(a, b, fact.Of(-1))
	sum, _ := fact.Two(ir.Add, a, b)
	part, _ := fact.Two(ir.Div, b, a)
	less, _ := fact.Two(ir.Less, a, b)
	back, _ := fact.One(ir.Neg, a)
	for _, c := range []struct {
		about string
		x     ir.Insn
		want  state.State
		needs []Need
	}{
		{"Const", ir.Insn{Op: ir.Const, D: 2, N: -7}, state.Set(s, 2, fact.Of(-7), 6), nil},
		{"Input", ir.Insn{Op: ir.Input, D: 1}, state.Set(s, 1, fact.Any(), 6), nil},
		{"Load", ir.Insn{Op: ir.Load, D: 0, B: 0}, state.Set(s, 0, from(-4, 4), 6), nil},
		{"Load of the last", ir.Insn{Op: ir.Load, D: 0, B: 1}, state.Set(s, 0, fact.Of(6), 6), nil},
		{"Move", ir.Insn{Op: ir.Move, D: 2, A: 0}, state.Set(s, 2, a, 6), nil},
		{"Move to itself", ir.Insn{Op: ir.Move, D: 0, A: 0}, state.Set(s, 0, a, 6), nil},
		{"Neg", ir.Insn{Op: ir.Neg, D: 2, A: 0}, state.Set(s, 2, back, 6), nil},
		{"Add", ir.Insn{Op: ir.Add, D: 2, A: 0, B: 1}, state.Set(s, 2, sum, 6), nil},
		{"Div", ir.Insn{Op: ir.Div, D: 0, A: 1, B: 0}, state.Set(s, 0, part, 6), nil},
		{"Less", ir.Insn{Op: ir.Less, D: 1, A: 0, B: 1}, state.Set(s, 1, less, 6), nil},
		{"Same", ir.Insn{Op: ir.Same, D: 1, A: 1, B: 1}, state.Set(s, 1, fact.Value{Sign: 6, Known: known.Of(1), Span: span.Of(1), Parity: 3}, 6), nil},
		{"Output", ir.Insn{Op: ir.Output, A: 1}, s, nil},
		{"Store", ir.Insn{Op: ir.Store, A: 0, B: 1}, s, []Need{{Insn: 1, Store: true, To: 1, Vals: []fact.Value{a}}}},
		{"Store to the first", ir.Insn{Op: ir.Store, A: 2, B: 0}, s, []Need{{Insn: 1, Store: true, To: 0, Vals: of(-1)}}},
		{"Call", ir.Insn{Op: ir.Call, D: 0, B: 0, Args: []int{1, 0}}, state.Set(s, 0, from(5, 9), 6), []Need{{Insn: 1, To: 0, Vals: []fact.Value{b, a}}}},
		{"Call with one twice", ir.Insn{Op: ir.Call, D: 1, B: 0, Args: []int{1, 1}}, state.Set(s, 1, from(5, 9), 6), []Need{{Insn: 1, To: 0, Vals: of(2, 2)}}},
		{"Call of one that doesn't Return", ir.Insn{Op: ir.Call, D: 2, B: 1}, state.None(), []Need{{Insn: 1, To: 1}}},
		{"Call of an import", ir.Insn{Op: ir.Call, D: 2, B: 2, Args: []int{2}}, state.Set(s, 2, fact.Of(8), 6), []Need{{Insn: 1, To: 2, Vals: of(-1)}}},
		{"Call of an import that doesn't Return", ir.Insn{Op: ir.Call, D: 2, B: 3}, state.None(), []Need{{Insn: 1, To: 3}}},
	} {
		e := three(block(), block(ir.Insn{Op: ir.Input}, c.x))
		if !Fits(e) {
			t.Fatal(c.about)
		}
		got, needs := Insn(e, 1, 1, 1, s)
		wantState(t, c.about, got, c.want)
		wantNeeds(t, c.about, needs, c.needs...)
		if !state.Right(got, 3, ir.Sites(e.Module)) {
			t.Error(c.about, got)
		}
		got, needs = Insn(e, 1, 1, 1, state.None())
		wantState(t, c.about+", not Reached", got, state.None())
		wantNeeds(t, c.about+", not Reached", needs)
	}
}

// P14.1: nobody comes behind what has no number.
func TestNothingBehind(t *testing.T) {
	zero, noSign := fact.Any(), fact.Any()
	zero.Known = known.Of(0)
	noSign.Sign = 2
	for _, op := range []int{ir.Div, ir.Rem} {
		for _, by := range []fact.Value{fact.Of(0), zero, noSign, from(0, 0)} {
			e := three(block(ir.Insn{Op: op, D: 1, A: 0, B: 2}))
			got, needs := Insn(e, 1, 0, 0, having(fact.Any(), fact.Of(1), by))
			wantState(t, fmt.Sprint(op, by), got, state.None())
			wantNeeds(t, fmt.Sprint(op, by), needs)
		}
	}
}

// P14.1: each of the Ops of two registers, and of one, is the one of layer 12, with A ahead of B.
func TestOpsOfRegisters(t *testing.T) {
	source := rand.New(rand.NewSource(1))
	for range 300 {
		s := having(someValues(source, 3)...)
		for op := ir.Move; op <= ir.Same; op++ {
			x := ir.Insn{Op: op, D: source.Intn(3), A: source.Intn(3)}
			v, ok := fact.One(op, s.Vals[x.A])
			if op >= ir.Add {
				x.B = source.Intn(3)
				v, ok = fact.Two(op, s.Vals[x.A], s.Vals[x.B])
			}
			want := state.None()
			if ok {
				want = state.Set(s, x.D, v, 5)
			}
			got, _ := Insn(three(block(x)), 1, 0, 0, s)
			wantState(t, fmt.Sprint(x, s), got, want)
		}
	}
}

// P14.1: there is no such instruction.
func TestNoSuchInsn(t *testing.T) {
	x := ir.Insn{Op: ir.Const, D: 1, N: 4}
	e := three(block(x, x), block(x))
	s := having(of(1, 2, 3)...)
	for _, c := range [][3]int{
		{-1, 0, 0}, {2, 0, 0}, {3, 0, 0}, {4, 0, 0}, {math.MinInt, 0, 0}, {math.MaxInt, 0, 0},
		{1, -1, 0}, {1, 2, 0}, {1, math.MinInt, 0}, {1, math.MaxInt, 0},
		{1, 0, -1}, {1, 0, 2}, {1, 1, 1}, {1, 0, math.MinInt}, {1, 0, math.MaxInt}, {0, 0, 0},
	} {
		got, needs := Insn(e, c[0], c[1], c[2], s)
		wantState(t, fmt.Sprint(c), got, s)
		wantNeeds(t, fmt.Sprint(c), needs)
		got, needs = Insn(e, c[0], c[1], c[2], state.None())
		wantState(t, fmt.Sprint(c), got, state.None())
		wantNeeds(t, fmt.Sprint(c), needs)
	}
}

// P14.1: Ends, of a block without instructions.
func TestEnds(t *testing.T) {
	s := having(from(0, 3), fact.Of(0), fact.Of(5))
	lost := fact.Any()
	lost.Known, lost.Sign = known.Of(0), 5
	neither := having(lost, fact.Of(0), fact.Of(5))
	branch := func(a, to, other int) ir.End { return ir.End{Op: ir.Branch, A: a, To: to, Else: other} }
	for _, c := range []struct {
		about string
		end   ir.End
		s     state.State
		want  Out
	}{
		{"Jump", ir.End{Op: ir.Jump, To: 1}, s, Out{Edges: []Edge{{1, s}}}},
		{"Jump to itself", ir.End{Op: ir.Jump}, s, Out{Edges: []Edge{{0, s}}}},
		{"Branch both ways", branch(0, 1, 2), s, Out{Edges: []Edge{{1, state.Branch(s, 0, true)}, {2, state.Branch(s, 0, false)}}}},
		{"Branch, the lower one behind", branch(0, 2, 0), s, Out{Edges: []Edge{{2, state.Branch(s, 0, true)}, {0, state.Branch(s, 0, false)}}}},
		{"Branch of 0", branch(1, 1, 2), s, Out{Edges: []Edge{{2, s}}}},
		{"Branch of another number", branch(2, 1, 2), s, Out{Edges: []Edge{{1, s}}}},
		{"Branch, nobody goes on", branch(0, 1, 2), neither, Out{}},
		{"Branch to one", branch(0, 1, 1), s, Out{Edges: []Edge{{1, s}}}},
		{"Branch of 0 to one", branch(1, 2, 2), s, Out{Edges: []Edge{{2, s}}}},
		{"Branch to one, of what goes nowhere", branch(0, 2, 2), neither, Out{Edges: []Edge{{2, neither}}}},
		{"Return", ir.End{Op: ir.Return, A: 0}, s, Out{Returns: true, Result: from(0, 3)}},
		{"Return of the last", ir.End{Op: ir.Return, A: 2}, s, Out{Returns: true, Result: fact.Of(5)}},
	} {
		e := three(ir.Block{End: c.end}, block(), block())
		if !Fits(e) {
			t.Fatal(c.about)
		}
		wantOut(t, c.about, Block(e, 1, 0, c.s), c.want)
		wantOut(t, c.about+", not Reached", Block(e, 1, 0, state.None()), Out{})
	}
}

// P14.1: the chapter's example.
func TestExample(t *testing.T) {
	v := fact.Join(fact.Of(0), fact.Of(3))
	e := three(ir.Block{End: ir.End{Op: ir.Branch, A: 0, To: 2, Else: 1}}, block(), block())
	o := Block(e, 1, 0, having(v, v, v))
	if len(o.Edges) != 2 || o.Edges[0].To != 2 || o.Edges[1].To != 1 {
		t.Fatal(o)
	}
	if o.Edges[0].State.Vals[0].Span != (span.Span{Lo: 1, Hi: 3}) || o.Edges[1].State.Vals[0].Span != span.Of(0) {
		t.Error(o)
	}
}

// P14.1: instructions one behind the other, and what must follow elsewhere, in order.
func TestBlock(t *testing.T) {
	insns := []ir.Insn{
		{Op: ir.Store, A: 0, B: 1},
		{Op: ir.Const, D: 0, N: 3},
		{Op: ir.Call, D: 1, B: 2, Args: []int{0}},
		{Op: ir.Store, A: 1, B: 0},
		{Op: ir.Call, D: 0, B: 0, Args: []int{0, 1}},
		{Op: ir.Output, A: 1},
	}
	needs := []Need{
		{Insn: 0, Store: true, To: 1, Vals: of(1)},
		{Insn: 2, To: 2, Vals: of(3)},
		{Insn: 3, Store: true, To: 0, Vals: of(8)},
		{Insn: 4, To: 0, Vals: of(3, 8)},
	}
	s := having(of(1, 2, 0)...)
	e := three(block(insns...))
	wantOut(t, "whole", Block(e, 1, 0, s), Out{Needs: needs, Returns: true, Result: from(5, 9)})

	e.Module.Funcs[1].Blocks[0].End = ir.End{Op: ir.Jump}
	last := state.State{Reached: true, Vals: []fact.Value{from(5, 9), fact.Of(8), fact.Of(0)}, Sites: [][]int{{7}, {6}, {2}}}
	wantOut(t, "Jump", Block(e, 1, 0, s), Out{Needs: needs, Edges: []Edge{{0, last}}})

	// Nobody comes behind the first Call: what is needed up to it stays.
	e.Sums[2] = Sum{}
	wantOut(t, "a Call that doesn't Return", Block(e, 1, 0, s), Out{Needs: needs[:2]})
	// So behind a Div by 0, at whose site nobody gets anything.
	e = three(block(insns[0], ir.Insn{Op: ir.Div, D: 0, A: 1, B: 2}, insns[0], insns[4]))
	wantOut(t, "a Div by 0", Block(e, 1, 0, s), Out{Needs: needs[:1]})
	wantOut(t, "not Reached", Block(e, 1, 0, state.None()), Out{})
}

// P14.1: there is no such block.
func TestNoSuchBlock(t *testing.T) {
	e := three(block(), block(ir.Insn{Op: ir.Store}))
	for _, c := range [][2]int{
		{-1, 0}, {2, 0}, {3, 0}, {4, 0}, {math.MinInt, 0}, {math.MaxInt, 0},
		{1, -1}, {1, 2}, {0, 1}, {1, math.MinInt}, {1, math.MaxInt},
	} {
		wantOut(t, fmt.Sprint(c), Block(e, c[0], c[1], having(of(1, 2, 3)...)), Out{})
		wantOut(t, fmt.Sprint(c), Block(e, c[0], c[1], state.None()), Out{})
	}
}

// P14.1: a Block is its instructions one behind the other, then its End, whatever it is.
func TestBlockByInsns(t *testing.T) {
	source := rand.New(rand.NewSource(2))
	for range 400 {
		m := someModule(t, source, 2)
		e := someEnv(t, source, m, m.Cells)
		for f := range m.Funcs {
			for b := range m.Funcs[f].Blocks {
				s := someState(source, m, f)
				wantOut(t, "Block", Block(e, f, b, s), byInsns(e, f, b, s))
			}
		}
	}
}

// byInsns is what Block must tell, by the chapter's words.
func byInsns(e Env, f, b int, s state.State) Out {
	var o Out
	if !s.Reached {
		return o
	}
	for i := range e.Module.Funcs[f].Blocks[b].Insns {
		behind, needs := Insn(e, f, b, i, s)
		o.Needs = slices.Concat(o.Needs, needs)
		s = behind
	}
	if !s.Reached {
		return o
	}
	switch end := e.Module.Funcs[f].Blocks[b].End; end.Op {
	case ir.Jump:
		o.Edges = []Edge{{end.To, s}}
	case ir.Return:
		o.Returns, o.Result = true, s.Vals[end.A]
	case ir.Branch:
		if end.To == end.Else {
			o.Edges = []Edge{{end.To, s}}
			break
		}
		if yes := state.Branch(s, end.A, true); yes.Reached {
			o.Edges = append(o.Edges, Edge{end.To, yes})
		}
		if no := state.Branch(s, end.A, false); no.Reached {
			o.Edges = append(o.Edges, Edge{end.Else, no})
		}
	}
	return o
}

// more is an Env that tells no more than e, by chance less.
func more(source *rand.Rand, e Env) Env {
	wide := Env{Module: e.Module}
	for _, v := range e.Cells {
		wide.Cells = append(wide.Cells, fact.Join(v, someValue(source)))
	}
	for f, s := range e.Sums {
		other := someSum(source, ir.Arity(e.Module, f))
		if !other.Called {
			other.Args = s.Args
		} else if s.Called {
			for i := range s.Args {
				other.Args[i] = fact.Join(other.Args[i], s.Args[i])
			}
		}
		if !other.Returns {
			other.Result = s.Result
		} else if s.Returns {
			other.Result = fact.Join(other.Result, s.Result)
		}
		other.Called, other.Returns = other.Called || s.Called, other.Returns || s.Returns
		wide.Sums = append(wide.Sums, other)
	}
	return wide
}

// needsWithin tells whether each of the Needs is within one of the others.
func needsWithin(a, b []Need) bool {
	for _, x := range a {
		if !slices.ContainsFunc(b, func(y Need) bool {
			return x.Insn == y.Insn && x.Store == y.Store && x.To == y.To && slices.EqualFunc(x.Vals, y.Vals, fact.Within)
		}) {
			return false
		}
	}
	return true
}

// outWithin tells whether as much follows by b as by a, or more.
func outWithin(a, b Out) bool {
	for _, x := range a.Edges {
		if !slices.ContainsFunc(b.Edges, func(y Edge) bool { return x.To == y.To && state.Within(x.State, y.State) }) {
			return false
		}
	}
	return needsWithin(a.Needs, b.Needs) && (!a.Returns || b.Returns && fact.Within(a.Result, b.Result))
}

// P14.3: of more in s, in Cells and Sums as much follows, or more.
func TestMoreMakesMore(t *testing.T) {
	source := rand.New(rand.NewSource(3))
	for range 300 {
		m := someModule(t, source, 2)
		e := someEnv(t, source, m, m.Cells)
		wide := more(source, e)
		if !Fits(wide) {
			t.Fatal(wide)
		}
		for f := range m.Funcs {
			s := someState(source, m, f)
			greater := state.Join(s, someState(source, m, f))
			for b := range m.Funcs[f].Blocks {
				for i := range m.Funcs[f].Blocks[b].Insns {
					got, needs := Insn(e, f, b, i, s)
					gotMore, needsMore := Insn(wide, f, b, i, greater)
					if !state.Within(got, gotMore) || !needsWithin(needs, needsMore) {
						t.Error("Insn", e, wide, s, greater, f, b, i)
					}
				}
				if !outWithin(Block(e, f, b, s), Block(wide, f, b, greater)) {
					t.Error("Block", e, wide, s, greater, f, b)
				}
			}
		}
	}
}

// P14.1: what is answered of what fits is Right.
func TestAnswersAreRight(t *testing.T) {
	source := rand.New(rand.NewSource(4))
	for range 300 {
		m := someModule(t, source, 2)
		e := someEnv(t, source, m, m.Cells)
		for f := range m.Funcs {
			for b := range m.Funcs[f].Blocks {
				o := Block(e, f, b, someState(source, m, f))
				for _, n := range o.Needs {
					for _, v := range n.Vals {
						if !fact.Right(v) {
							t.Error(n)
						}
					}
				}
				for _, x := range o.Edges {
					if !x.State.Reached || !state.Right(x.State, m.Funcs[f].Regs, ir.Sites(m)) {
						t.Error(x)
					}
				}
				if o.Returns != (o.Result != fact.Value{}) || o.Returns && !fact.Right(o.Result) {
					t.Error(o)
				}
			}
		}
	}
}
