package flow

import (
	"fmt"
	"math"
	"math/rand"
	"slices"
	"testing"

	"averment/fact"
	"averment/ir"
	"averment/state"
)

// withRoom is a list with spare room, in which something stands.
func withRoom[T any](list []T, rest ...T) []T {
	return append(slices.Clone(list), rest...)[:len(list)]
}

// roomyState is equal to s, but each of its lists has spare room.
func roomyState(s state.State) state.State {
	c := state.State{Reached: s.Reached, Vals: withRoom(s.Vals, of(77, 78)...)}
	for _, set := range s.Sites {
		c.Sites = append(c.Sites, withRoom(set, 77, 78))
	}
	c.Sites = withRoom(c.Sites, []int{79})
	return c
}

// roomyEnv is equal to e, but each of its lists has spare room.
func roomyEnv(e Env) Env {
	c := Env{Module: ir.Copy(e.Module), Cells: withRoom(e.Cells, fact.Of(77))}
	c.Module.Cells = withRoom(c.Module.Cells, 77)
	c.Module.Imports = withRoom(c.Module.Imports, ir.Import{Name: "spare"})
	for f := range c.Module.Funcs {
		fn := &c.Module.Funcs[f]
		for b := range fn.Blocks {
			for i := range fn.Blocks[b].Insns {
				x := &fn.Blocks[b].Insns[i]
				x.Args = withRoom(x.Args, 77, 78)
			}
			fn.Blocks[b].Insns = withRoom(fn.Blocks[b].Insns, ir.Insn{Op: 77})
		}
		fn.Blocks = withRoom(fn.Blocks, ir.Block{End: ir.End{Op: 77}})
	}
	c.Module.Funcs = withRoom(c.Module.Funcs, ir.Func{Name: "spare"})
	for _, s := range e.Sums {
		s.Args = withRoom(s.Args, fact.Of(77))
		c.Sums = append(c.Sums, s)
	}
	c.Sums = withRoom(c.Sums, Sum{Returns: true})
	return c
}

// all is a list with its spare room.
func all[T any](list []T) []T { return list[:cap(list)] }

// wholeState is all of a State, with its spare room.
func wholeState(s state.State) string {
	text := fmt.Sprint(s.Reached, all(s.Vals), all(s.Sites))
	for _, set := range s.Sites {
		text += fmt.Sprint(all(set))
	}
	return text
}

// wholeEnv is all of an Env, with its spare room.
func wholeEnv(e Env) string {
	text := fmt.Sprint(all(e.Module.Cells), all(e.Module.Funcs), all(e.Module.Imports), all(e.Cells), all(e.Sums))
	for _, f := range e.Module.Funcs {
		text += fmt.Sprint(all(f.Blocks))
		for _, b := range f.Blocks {
			text += fmt.Sprint(all(b.Insns))
			for _, x := range b.Insns {
				text += fmt.Sprint(all(x.Args))
			}
		}
	}
	for _, s := range e.Sums {
		text += fmt.Sprint(all(s.Args))
	}
	return text
}

// fill lays x all over a list, with its spare room.
func fill[T any](list []T, x T) {
	for i := range all(list) {
		all(list)[i] = x
	}
}

func spoilState(s state.State) {
	fill(s.Vals, fact.Of(-99))
	for _, set := range s.Sites {
		fill(set, -99)
	}
	fill(s.Sites, []int{-98})
}

func spoilNeeds(needs []Need) {
	for _, n := range needs {
		fill(n.Vals, fact.Of(-99))
	}
	fill(needs, Need{Insn: -99})
}

func spoilOut(o Out) {
	spoilNeeds(o.Needs)
	for _, x := range o.Edges {
		spoilState(x.State)
	}
	fill(o.Edges, Edge{To: -99})
}

func spoilEnv(e Env) {
	fill(e.Cells, fact.Of(-99))
	for _, s := range e.Sums {
		fill(s.Args, fact.Of(-99))
	}
	fill(e.Sums, Sum{})
	for _, f := range e.Module.Funcs {
		for _, b := range f.Blocks {
			for _, x := range b.Insns {
				fill(x.Args, -99)
			}
			fill(b.Insns, ir.Insn{})
		}
		fill(f.Blocks, ir.Block{})
	}
	fill(e.Module.Funcs, ir.Func{})
	fill(e.Module.Imports, ir.Import{})
	fill(e.Module.Cells, -99)
}

// every is an Env with each instruction, and with each End.
func every() Env {
	return three(
		ir.Block{Insns: []ir.Insn{
			{Op: ir.Const, D: 0, N: 3},
			{Op: ir.Store, A: 0, B: 1},
			{Op: ir.Add, D: 1, A: 0, B: 2},
			{Op: ir.Call, D: 2, B: 0, Args: []int{1, 0}},
			{Op: ir.Neg, D: 0, A: 2},
			{Op: ir.Load, D: 0, B: 0},
			{Op: ir.Output, A: 0},
			{Op: ir.Call, D: 2, B: 2, Args: []int{1}},
			{Op: ir.Store, A: 2, B: 0},
		}, End: ir.End{Op: ir.Branch, A: 0, To: 1, Else: 2}},
		ir.Block{End: ir.End{Op: ir.Jump, To: 2}},
		ir.Block{End: ir.End{Op: ir.Branch, A: 1, To: 2, Else: 2}},
		ir.Block{End: ir.End{Op: ir.Branch, A: 1, To: 0, Else: 2}},
		ir.Block{Insns: []ir.Insn{{Op: ir.Output}}, End: ir.End{Op: ir.Return, A: 1}},
		ir.Block{Insns: []ir.Insn{{Op: ir.Call, D: 1, B: 1}}, End: ir.End{Op: ir.Return, A: 1}},
	)
}

// everyState is one with sites, of function 1 of every.
func everyState() state.State {
	return state.State{Reached: true, Vals: []fact.Value{from(0, 3), from(-1, 1), fact.Of(2)}, Sites: [][]int{{1, 2}, {3}, {0, 4}}}
}

// asked is an answer, what is to be seen of it, and how it is spoilt.
type asked struct {
	text  string
	spoil func()
}

// calls are all calls of the package, of all instructions and blocks, and of some that aren't there.
func calls() map[string]func(e Env, s state.State) asked {
	list := map[string]func(e Env, s state.State) asked{
		"Fits": func(e Env, s state.State) asked { return asked{fmt.Sprint(Fits(e)), func() {}} },
	}
	for b := range 7 {
		for i := range 10 {
			list[fmt.Sprint("Insn ", b, i)] = func(e Env, s state.State) asked {
				behind, needs := Insn(e, 1, b, i, s)
				return asked{fmt.Sprint(behind, needs), func() { spoilState(behind); spoilNeeds(needs) }}
			}
		}
		list[fmt.Sprint("Block ", b)] = func(e Env, s state.State) asked {
			o := Block(e, 1, b, s)
			return asked{fmt.Sprint(o), func() { spoilOut(o) }}
		}
	}
	return list
}

// P14.4: what is handed in isn't changed or kept; answers are new memory.
func TestMemory(t *testing.T) {
	if e := every(); !Fits(e) {
		t.Fatal(e)
	}
	for _, begin := range []state.State{everyState(), state.None()} {
		for name, call := range calls() {
			e, s := roomyEnv(every()), roomyState(begin)
			asBefore := wholeEnv(e) + wholeState(s)
			answer := call(e, s)
			if wholeEnv(e)+wholeState(s) != asBefore {
				t.Error(name, "changed what was handed in")
			}
			again := call(e, s)
			behind, needs := Insn(e, 1, 0, 3, s)
			o := Block(e, 1, 0, s)
			told := fmt.Sprint(behind, needs, o)
			answer.spoil()
			if wholeEnv(e)+wholeState(s) != asBefore || fmt.Sprint(behind, needs, o) != told {
				t.Error(name, "shares its answer")
			}
			if third := call(e, s); third.text != again.text || answer.text != again.text {
				t.Error(name, "isn't told again")
			}
			spoilEnv(e)
			spoilState(s)
			if fmt.Sprint(behind, needs, o) != told {
				t.Error(name, "keeps what was handed in")
			}
		}
	}
}

// P14.4: no two lists of one answer share memory, whatever those that are handed in do.
func TestListsAreApart(t *testing.T) {
	set := []int{1, 4}
	s := everyState()
	s.Sites = [][]int{set, set, set}
	for b := range 6 {
		want := fmt.Sprint(Block(every(), 1, b, s))
		whole := Block(every(), 1, b, s)
		for i := range whole.Edges {
			for r := range 3 {
				o := Block(every(), 1, b, s)
				fill(o.Edges[i].State.Sites[r], -99)
				o.Edges[i].State.Sites[r] = whole.Edges[i].State.Sites[r]
				if fmt.Sprint(o) != want {
					t.Error("sites", b, i, r)
				}
			}
			o := Block(every(), 1, b, s)
			spoilState(o.Edges[i].State)
			o.Edges[i] = whole.Edges[i]
			if fmt.Sprint(o) != want {
				t.Error("Edge", b, i)
			}
		}
		for i := range whole.Needs {
			o := Block(every(), 1, b, s)
			fill(o.Needs[i].Vals, fact.Of(-99))
			o.Needs[i] = whole.Needs[i]
			if fmt.Sprint(o) != want {
				t.Error("Need", b, i)
			}
		}
	}
}

// wrongNumbers are numbers that are no register, no cell, no function, no block.
var wrongNumbers = []int{math.MinInt, -1, 0, 1, 5, 17, 18, math.MaxInt}

// spoilt is an Env of which something doesn't fit, by chance.
func spoilt(source *rand.Rand, e Env) Env {
	c := roomyEnv(e)
	wrong := func() int { return wrongNumbers[source.Intn(len(wrongNumbers))] }
	f := &c.Module.Funcs[source.Intn(len(c.Module.Funcs))]
	b := &f.Blocks[source.Intn(len(f.Blocks))]
	if len(b.Insns) > 0 {
		x := &b.Insns[source.Intn(len(b.Insns))]
		field := []*int{&x.Op, &x.D, &x.A, &x.B}[source.Intn(4)]
		*field = wrong()
		if source.Intn(2) == 0 {
			x.Args = []int{wrong(), wrong()}
		}
	}
	*[]*int{&b.End.Op, &b.End.A, &b.End.To, &b.End.Else}[source.Intn(4)] = wrong()
	switch source.Intn(6) {
	case 0:
		c.Cells = c.Cells[:source.Intn(len(c.Cells))]
	case 1:
		c.Sums = c.Sums[:source.Intn(len(c.Sums))]
	case 2:
		f.Regs = wrong()
	case 3:
		fill(c.Cells, fact.Value{})
	case 4:
		c.Module.Funcs = c.Module.Funcs[:source.Intn(len(c.Module.Funcs))]
	}
	return c
}

// P1: of what doesn't fit there is an end.
func TestAnythingEnds(t *testing.T) {
	source := rand.New(rand.NewSource(5))
	for range 3000 {
		m := someModule(t, source, 2)
		e := spoilt(source, someEnv(t, source, m, m.Cells))
		s := someState(source, m, source.Intn(len(m.Funcs)))
		switch source.Intn(5) {
		case 0:
			s.Vals = s.Vals[:source.Intn(len(s.Vals)+1)]
		case 1:
			s.Sites = s.Sites[:source.Intn(len(s.Sites)+1)]
		case 2:
			s.Reached = !s.Reached
		case 3:
			fill(s.Vals, fact.Value{})
		}
		Fits(e)
		for f := -1; f < 5; f++ {
			for b := -1; b < 5; b++ {
				for i := -1; i < 6; i++ {
					Insn(e, f, b, i, s)
				}
				Block(e, f, b, s)
			}
		}
	}
	Fits(Env{Sums: []Sum{{}}})
	Insn(Env{}, 0, 0, 0, state.State{Reached: true})
	Block(Env{}, 0, 0, state.State{Reached: true})
}
