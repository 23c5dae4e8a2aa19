package reach

import (
	"fmt"
	"math/rand"
	"slices"
	"testing"

	"averment/ir"
)

// withRoom is a list with spare room, in which something stands.
func withRoom[T any](list []T, rest ...T) []T {
	return append(slices.Clone(list), rest...)[:len(list)]
}

// whole is a list with its spare room.
func whole[T any](list []T) []T { return list[:cap(list)] }

// fill lays x all over a list, with its spare room.
func fill[T any](list []T, x T) {
	for i := range whole(list) {
		whole(list)[i] = x
	}
}

// given is all that the calls are handed.
type given struct {
	m     ir.Module
	ahead [][]int
}

// roomy is a module with a loop, where two ways meet, and sets, each list of which has spare room.
func roomy(t *testing.T) given {
	m := only(t, 3,
		block(branch(0, 1, 2), number(1)),
		block(jump(2), number(0), ir.Insn{Op: ir.Call, D: 1, B: 3, Args: withRoom([]int{2}, 77, 78)}),
		block(branch(1, 0, 3)),
		block(back(2)),
		block(jump(0), number(2)))
	m.Cells = withRoom(m.Cells, 77)
	m.Imports = withRoom(m.Imports, ir.Import{Name: "spare"})
	for f := range m.Funcs {
		blocks := m.Funcs[f].Blocks
		for b := range blocks {
			blocks[b].Insns = withRoom(blocks[b].Insns, ir.Insn{Op: 77})
		}
		m.Funcs[f].Blocks = withRoom(blocks, ir.Block{End: ir.End{Op: 77}})
	}
	m.Funcs = withRoom(m.Funcs, ir.Func{Name: "spare"})
	return given{m, withRoom([][]int{withRoom([]int{4, 8}, 77), withRoom([]int{5}, 77, 78), withRoom([]int{6, 7}, 79)}, []int{76})}
}

// text is all of it, with the spare room.
func (g given) text() string {
	text := fmt.Sprint(whole(g.m.Cells), whole(g.m.Funcs), whole(g.m.Imports), whole(g.ahead))
	for _, set := range g.ahead {
		text += fmt.Sprint(whole(set))
	}
	for _, f := range g.m.Funcs {
		text += fmt.Sprint(whole(f.Blocks))
		for _, b := range f.Blocks {
			text += fmt.Sprint(whole(b.Insns))
			for _, x := range b.Insns {
				text += fmt.Sprint(whole(x.Args))
			}
		}
	}
	return text
}

// spoil writes over all of it.
func (g given) spoil() {
	for _, f := range g.m.Funcs {
		for _, b := range f.Blocks {
			for _, x := range b.Insns {
				fill(x.Args, -99)
			}
			fill(b.Insns, ir.Insn{Op: ir.Output})
		}
		fill(f.Blocks, ir.Block{})
	}
	fill(g.m.Funcs, ir.Func{})
	fill(g.m.Imports, ir.Import{})
	fill(g.m.Cells, -99)
	for _, set := range g.ahead {
		fill(set, -99)
	}
	fill(g.ahead, nil)
}

// calls are all calls, their answers as Solve's are.
func calls() map[string]func(g given) [][][]int {
	list := map[string]func(g given) [][][]int{
		"Solve, no such function":  func(g given) [][][]int { return Solve(g.m, 3) },
		"Behind, no such function": func(g given) [][][]int { return [][][]int{Behind(g.m, 3, 0, g.ahead)} },
	}
	for f := range 3 {
		list[fmt.Sprint("Begin ", f)] = func(g given) [][][]int { return [][][]int{Begin(g.m, f)} }
		list[fmt.Sprint("Solve ", f)] = func(g given) [][][]int { return Solve(g.m, f) }
	}
	for b := -1; b < 6; b++ {
		list[fmt.Sprint("Behind ", b)] = func(g given) [][][]int { return [][][]int{Behind(g.m, 1, b, g.ahead)} }
		list[fmt.Sprint("Behind, fewer sets ", b)] = func(g given) [][][]int { return [][][]int{Behind(g.m, 1, b, g.ahead[:1])} }
	}
	for site := range 14 {
		list[fmt.Sprint("Meets ", site)] = func(g given) [][][]int { return [][][]int{{Meets(g.m, site)}} }
	}
	return list
}

// P16.3: what is handed in isn't changed or kept; answers are new memory.
func TestMemory(t *testing.T) {
	wellFormed(t, roomy(t).m)
	for name, call := range calls() {
		g := roomy(t)
		before := g.text()
		answer := call(g)
		if g.text() != before {
			t.Error(name, "changed what was handed in")
		}
		kept, told := call(g), fmt.Sprint(answer)
		for _, sets := range answer {
			for _, set := range sets {
				fill(set, -77)
			}
			fill(sets, nil)
		}
		fill(answer, nil)
		if g.text() != before || fmt.Sprint(kept) != told || fmt.Sprint(call(g)) != told {
			t.Error(name, "shares its answer")
		}
		g.spoil()
		if fmt.Sprint(kept) != told {
			t.Error(name, "keeps what was handed in")
		}
		if fmt.Sprint(call(roomy(t))) != told {
			t.Error(name, "isn't told again")
		}
	}
}

// P16.3: no two lists of one answer share memory, whatever those that are handed in do.
func TestListsAreApart(t *testing.T) {
	g := roomy(t)
	one := []int{4, 5}
	g.ahead = [][]int{one, one, one}
	list := calls()
	for _, name := range []string{"Solve 1", "Begin 1", "Behind -1", "Behind 0", "Behind 1", "Behind 2"} {
		want := list[name](g)
		for b, sets := range want {
			for r := range sets {
				got := list[name](g)
				fill(got[b][r], -77)
				got[b][r] = want[b][r]
				if fmt.Sprint(got) != fmt.Sprint(want) {
					t.Error(name, b, r, got, want)
				}
			}
			got := list[name](g)
			fill(got[b], []int{-77})
			got[b] = want[b]
			if fmt.Sprint(got) != fmt.Sprint(want) {
				t.Error(name, b, got, want)
			}
		}
	}
}

// asked calls all, of a module that may be anything.
func asked(m ir.Module, ahead [][]int) {
	for f := -1; f < len(m.Funcs)+2; f++ {
		Begin(m, f)
		Solve(m, f)
		for b := -1; b < 6; b++ {
			Behind(m, f, b, ahead)
		}
	}
	for site := -2; site < 30; site++ {
		Meets(m, site)
	}
	for _, site := range numbers {
		Meets(m, site)
	}
}

// P1: of modules that aren't well-formed, and of lists that are no sets, there is an end.
func TestAnythingEnds(t *testing.T) {
	source := rand.New(rand.NewSource(3))
	wrong := func() int { return append(numbers, 3, 4097)[source.Intn(len(numbers)+2)] }
	for range 1500 {
		m := someModule(t, source, 4)
		for range 1 + source.Intn(4) {
			f := &m.Funcs[source.Intn(len(m.Funcs))]
			b := &f.Blocks[source.Intn(len(f.Blocks))]
			*[]*int{&b.End.Op, &b.End.A, &b.End.To, &b.End.Else, &f.Regs}[source.Intn(5)] = wrong()
			if len(b.Insns) > 0 {
				x := &b.Insns[source.Intn(len(b.Insns))]
				*[]*int{&x.Op, &x.D, &x.A, &x.B}[source.Intn(4)] = wrong()
			}
		}
		asked(m, [][]int{{wrong(), 1, 0}, nil, {wrong()}, {2, 2, wrong()}}[:source.Intn(5)])
	}
	for _, regs := range append(numbers, 0, 4097) {
		asked(ir.Module{Funcs: []ir.Func{{Regs: regs}, {Regs: regs, Blocks: []ir.Block{block(branch(0, 0, 7), number(0))}}}}, nil)
	}
}

// P1: however many blocks a function has, there is an end.
func TestManyBlocksEnd(t *testing.T) {
	const n = 100000
	fn := ir.Func{Name: "f", Regs: 2}
	for b := range n {
		fn.Blocks = append(fn.Blocks, block(branch(0, max(b-1, 0), b/2), number(1)))
	}
	fn.Blocks[0] = block(jump(n - 1))
	m := ir.Module{Funcs: []ir.Func{fn}}
	got := Solve(m, 0)
	if len(got) != n || fmt.Sprint(got[0], got[n-1], got[n/2], got[100]) != "[[0] [1 2]] [[0] [1 2]] [[0] [50002]] [[0] [102 201 202]]" {
		t.Error(len(got), got[0], got[n-1], got[n/2], got[100])
	}
}
