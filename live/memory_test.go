package live

import (
	"fmt"
	"math"
	"math/rand"
	"slices"
	"testing"

	"averment/bits"
	"averment/ir"
)

// withRoom is a list with spare room, in which something stands.
func withRoom[T any](list []T, rest ...T) []T {
	return append(slices.Clone(list), rest...)[:len(list)]
}

// whole is a list with its spare room.
func whole[T any](list []T) []T { return list[:cap(list)] }

// fill lays x all over a list, with its spare room.
func fill[T any](list []T, x T) {
	for i := range whole(list) {
		whole(list)[i] = x
	}
}

// given is all that the calls are handed.
type given struct {
	f     ir.Func
	after []int
	live  [][]int
}

// roomy is a function that goes both ways, and sets, each list of which has spare room.
func roomy() given {
	blocks := []ir.Block{
		block(branch(0, 1, 2), ir.Insn{Op: ir.Call, D: 1, B: 2, Args: withRoom([]int{2}, 77, 78)}, number(0)),
		block(jump(0), add(2, 2, 0), output(1)),
		block(back(3)),
	}
	for b := range blocks {
		blocks[b].Insns = withRoom(blocks[b].Insns, ir.Insn{Op: 77})
	}
	return given{
		f:     ir.Func{Name: "f", Regs: 4, Blocks: withRoom(blocks, ir.Block{End: ir.End{Op: 77}})},
		after: withRoom([]int{0, 1}, 77, 78, 79),
		live:  withRoom([][]int{withRoom([]int{1, 2, 3}, 77), withRoom([]int{0, 1, 2, 3}, 77, 78), withRoom([]int{3}, 77, 78, 79)}, []int{76}),
	}
}

// text is all of it, with the spare room.
func (g given) text() string {
	text := fmt.Sprint(g.f, whole(g.f.Blocks), whole(g.after), whole(g.live))
	for _, set := range g.live {
		text += fmt.Sprint(whole(set))
	}
	for _, b := range g.f.Blocks {
		text += fmt.Sprint(whole(b.Insns))
		for _, x := range b.Insns {
			text += fmt.Sprint(whole(x.Args))
		}
	}
	return text
}

// spoil writes over all of it.
func (g given) spoil() {
	for _, b := range g.f.Blocks {
		for _, x := range b.Insns {
			fill(x.Args, -99)
		}
		fill(b.Insns, ir.Insn{Op: ir.Output, A: 5})
	}
	fill(g.f.Blocks, ir.Block{})
	fill(g.after, -99)
	for _, set := range g.live {
		fill(set, -99)
	}
	fill(g.live, nil)
}

// calls are all calls whose answers are lists, of all kinds of blocks, and of some that aren't there.
func calls() map[string]func(g given) [][]int {
	list := map[string]func(g given) [][]int{
		"Solve":        func(g given) [][]int { return Solve(g.f) },
		"Right, Check": func(g given) [][]int { return [][]int{{Check(g.f, g.live)}, {len(fmt.Sprint(Right(g.f, g.live)))}} },
	}
	for b := -1; b < 5; b++ {
		list[fmt.Sprint("Block ", b)] = func(g given) [][]int { return [][]int{Block(g.f, b, g.after)} }
		list[fmt.Sprint("After ", b)] = func(g given) [][]int { return [][]int{After(g.f, b, g.live)} }
		list[fmt.Sprint("After, too few ", b)] = func(g given) [][]int { return [][]int{After(g.f, b, g.live[:1])} }
	}
	for i := range 2 {
		list[fmt.Sprint("Insn ", i)] = func(g given) [][]int { return [][]int{Insn(g.f.Blocks[0].Insns[i], g.after)} }
	}
	list["Insn that does nothing"] = func(g given) [][]int { return [][]int{Insn(ir.Insn{Op: 77}, g.after)} }
	return list
}

// P15.3: what is handed in isn't changed or kept; answers are new memory.
func TestMemory(t *testing.T) {
	wellFormed(t, roomy().f)
	if at := Check(roomy().f, roomy().live); at != -1 {
		t.Fatal(at)
	}
	for name, call := range calls() {
		g := roomy()
		before := g.text()
		answer := call(g)
		if g.text() != before {
			t.Error(name, "changed what was handed in")
		}
		kept, told := call(g), fmt.Sprint(answer)
		for _, set := range answer {
			fill(set, -77)
		}
		fill(answer, nil)
		if g.text() != before || fmt.Sprint(kept) != told || fmt.Sprint(call(g)) != told {
			t.Error(name, "shares its answer")
		}
		g.spoil()
		if fmt.Sprint(kept) != told {
			t.Error(name, "keeps what was handed in")
		}
		if fmt.Sprint(call(roomy())) != told {
			t.Error(name, "isn't told again")
		}
	}
}

// P15.3: no two lists of one answer share memory.
func TestListsAreApart(t *testing.T) {
	f := roomy().f
	want := Solve(f)
	for b := range want {
		got := Solve(f)
		fill(got[b], -77)
		for other := range got {
			if other != b && !bits.Same(got[other], want[other]) {
				t.Error(b, other, got)
			}
		}
	}
}

// P1: of what is no function of a well-formed module, and of lists that are no sets, there is an end.
func TestAnythingEnds(t *testing.T) {
	source := rand.New(rand.NewSource(1))
	wrong := func() int { return numbers[source.Intn(len(numbers))] }
	for range 3000 {
		f := someFunc(source, 1+source.Intn(4), 1+source.Intn(4))
		for range 1 + source.Intn(4) {
			b := &f.Blocks[source.Intn(len(f.Blocks))]
			*[]*int{&b.End.Op, &b.End.A, &b.End.To, &b.End.Else, &f.Regs}[source.Intn(5)] = wrong()
			if len(b.Insns) > 0 {
				x := &b.Insns[source.Intn(len(b.Insns))]
				*[]*int{&x.Op, &x.D, &x.A, &x.B}[source.Intn(4)] = wrong()
				x.Args = append(x.Args, wrong())
			}
		}
		live := [][]int{{wrong(), 1, 0}, nil, {wrong()}, {2, 2, wrong()}}[:source.Intn(5)]
		Solve(f)
		Right(f, live)
		Check(f, live)
		Check(f, Solve(f))
		for b := -1; b < 6; b++ {
			After(f, b, live)
			Block(f, b, []int{3, wrong(), 0, 0})
		}
		Insn(ir.Insn{Op: source.Intn(20), D: wrong(), A: wrong(), B: wrong(), Args: []int{wrong(), wrong()}}, []int{wrong(), 0})
	}
}

// P1: however many blocks a function has, laid in either order, there is an end.
func TestManyBlocksEnd(t *testing.T) {
	const n = 200000
	up, down := fn(2), fn(2)
	for b := range n {
		up.Blocks = append(up.Blocks, block(branch(0, b+1, b/2)))
		down.Blocks = append(down.Blocks, block(branch(0, max(b-1, 0), min(b*2, n-1))))
	}
	up.Blocks[n-1] = block(back(1))
	down.Blocks[0] = block(back(1))
	for _, f := range []ir.Func{up, down} {
		live := Solve(f)
		if len(live) != n || !bits.Same(live[n/2], []int{0, 1}) || Check(f, live) != -1 {
			t.Error(len(live), live[n/2])
		}
	}
	if len(Block(fn(math.MaxInt, block(jump(0), slices.Repeat([]ir.Insn{add(0, 1, 2)}, n)...)), 0, []int{0})) != 2 {
		t.Error("many instructions")
	}
}
