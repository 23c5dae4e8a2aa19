package reach

import (
	"fmt"
	"math"
	"math/rand"
	"slices"
	"testing"

	"averment/bits"
	"averment/cfg"
	"averment/ir"
)

func block(end ir.End, insns ...ir.Insn) ir.Block { return ir.Block{Insns: insns, End: end} }

func jump(to int) ir.End { return ir.End{Op: ir.Jump, To: to} }

func branch(a, to, other int) ir.End { return ir.End{Op: ir.Branch, A: a, To: to, Else: other} }

func back(a int) ir.End { return ir.End{Op: ir.Return, A: a} }

func number(d int) ir.Insn { return ir.Insn{Op: ir.Const, D: d, N: 5} }

func output(a int) ir.Insn { return ir.Insn{Op: ir.Output, A: a} }

func store(a int) ir.Insn { return ir.Insn{Op: ir.Store, A: a} }

// numbers are such as are no function, no block, no site.
var numbers = []int{math.MinInt, -9, -1, 100, 4096, math.MaxInt}

func wellFormed(t *testing.T, m ir.Module) {
	t.Helper()
	if e := ir.Check(m); e != nil {
		t.Fatal(e, m)
	}
}

// only is a module whose function 1 has these blocks, and so many registers. Ahead of it is one with sites 0 to 3: its own begin with 4.
func only(t *testing.T, regs int, blocks ...ir.Block) ir.Module {
	t.Helper()
	m := ir.Module{
		Cells: []int64{0},
		Funcs: []ir.Func{
			{Name: "ahead", Arity: 1, Regs: 2, Blocks: []ir.Block{block(back(0), number(1), number(0))}},
			{Name: "f", Regs: regs, Blocks: blocks},
			{Name: "behind", Regs: 1, Blocks: []ir.Block{block(back(0), number(0))}},
		},
		Imports: []ir.Import{{Name: "elsewhere", Arity: 1}},
	}
	wellFormed(t, m)
	return m
}

// P16.1: a set of one for each register.
func TestBegin(t *testing.T) {
	m := only(t, 3, block(back(0), number(2)))
	for f, want := range []string{"[[0] [1]]", "[[4] [5] [6]]", "[[8]]"} {
		if got := Begin(m, f); fmt.Sprint(got) != want {
			t.Error(f, got, want)
		}
	}
}

// P16.1: the last one that sets a register counts, alone.
func TestBehind(t *testing.T) {
	m := only(t, 3,
		block(jump(1), number(1), output(1), store(1), number(1), number(0), number(1)), // sites 7 to 10
		block(branch(0, 2, 0), output(2), store(0)),
		block(back(0), ir.Insn{Op: ir.Input, D: 2}, ir.Insn{Op: ir.Load, D: 1}, ir.Insn{Op: ir.Call, D: 0, B: 3, Args: []int{2}}, ir.Insn{Op: ir.Add, D: 2, A: 2, B: 2})) // 11 to 14
	ahead := [][]int{{4, 12}, {5}, {6, 7, 13}}
	for _, c := range []struct {
		about string
		b     int
		ahead [][]int
		want  string
	}{
		{"a register that is set twice, and one that isn't", 0, ahead, "[[9] [10] [6 7 13]]"},
		{"none is set", 1, ahead, "[[4 12] [5] [6 7 13]]"},
		{"all are set, one of them twice", 2, ahead, "[[13] [12] [14]]"},
		{"fewer sets than registers", 0, ahead[:1], "[[9] [10] []]"},
		{"fewer sets than registers, and none is set", 1, ahead[:2], "[[4 12] [5] []]"},
		{"no sets", 0, nil, "[[9] [10] []]"},
		{"no sets, and none is set", 1, nil, "[[] [] []]"},
		{"empty sets", 0, [][]int{nil, {}, nil}, "[[9] [10] []]"},
		{"what isn't told ahead of a block that sets all", 2, nil, "[[13] [12] [14]]"},
		{"sites of other functions stay", 1, [][]int{{0, 15}, nil, {8}}, "[[0 15] [] [8]]"},
	} {
		if got := Behind(m, 1, c.b, c.ahead); fmt.Sprint(got) != c.want {
			t.Errorf("%s: got %v, want %s", c.about, got, c.want)
		}
	}
}

// P16.1: no such block: ahead's, with a set for each register.
func TestBehindNoSuchBlock(t *testing.T) {
	m := only(t, 3, block(jump(0), number(0), number(1), number(2)))
	for _, b := range append(numbers, 1) {
		if got := Behind(m, 1, b, [][]int{{4, 7}, nil, {6}}); fmt.Sprint(got) != "[[4 7] [] [6]]" {
			t.Error(b, got)
		}
		if got := Behind(m, 1, b, [][]int{{4, 7}}); fmt.Sprint(got) != "[[4 7] [] []]" {
			t.Error(b, got)
		}
	}
}

// P16.1: f is none of Funcs, though it may be an import: none, everywhere.
func TestNoSuchFunction(t *testing.T) {
	m := only(t, 2, block(jump(0), number(0)))
	for _, f := range append(numbers, 3, 4) {
		if len(Begin(m, f)) != 0 || len(Solve(m, f)) != 0 {
			t.Error(f, Begin(m, f), Solve(m, f))
		}
		for _, b := range []int{-1, 0, 1} {
			if got := Behind(m, f, b, [][]int{{4}, {5}}); len(got) != 0 {
				t.Error(f, b, got)
			}
		}
	}
	if len(Begin(ir.Module{}, 0)) != 0 || len(Behind(ir.Module{}, 0, 0, [][]int{{1}})) != 0 || len(Solve(ir.Module{}, 0)) != 0 {
		t.Error("a module without anything")
	}
}

// P16.1: all sites at which registers got their numbers last, by hand. Function f's sites begin with 4.
func TestSolve(t *testing.T) {
	for _, c := range []struct {
		about  string
		regs   int
		blocks []ir.Block
		want   string
	}{
		{"one block: what it sets isn't ahead of it", 2, []ir.Block{block(back(0), number(1))}, "[[[4] [5]]]"},
		{"the document's example: a loop that sets register 1 again and again", 2,
			[]ir.Block{block(jump(1)), block(branch(0, 1, 2), number(1)), block(back(0))},
			"[[[4] [5]] [[4] [5 6]] [[4] [6]]]"},
		{"a loop of block 0", 2, []ir.Block{block(branch(0, 0, 1), number(1), number(1)), block(back(0))},
			"[[[4] [5 7]] [[4] [7]]]"},
		{"two ways meet", 2,
			[]ir.Block{block(branch(0, 1, 2)), block(jump(3), number(0)), block(jump(3), number(0), number(1)), block(back(0))},
			"[[[4] [5]] [[4] [5]] [[4] [5]] [[6 7] [5 8]]]"},
		{"two ways meet, one of which sets nothing", 1,
			[]ir.Block{block(branch(0, 1, 2), number(0)), block(jump(2), number(0)), block(back(0))},
			"[[[4]] [[5]] [[5 6]]]"},
		{"behind where two ways meet it is set again", 1,
			[]ir.Block{block(branch(0, 1, 2)), block(jump(2), number(0)), block(jump(3), number(0)), block(back(0))},
			"[[[4]] [[4]] [[4 5]] [[6]]]"},
		{"round a loop of three, back to block 0", 3,
			[]ir.Block{block(jump(1), number(0)), block(jump(2), number(1)), block(branch(0, 0, 3), number(2)), block(back(0))},
			"[[[4 7] [5 8] [6 9]] [[7] [5 8] [6 9]] [[7] [8] [6 9]] [[7] [8] [9]]]"},
		{"loops in one another", 2,
			[]ir.Block{block(jump(1)), block(branch(0, 2, 4), number(0)), block(branch(1, 2, 3), number(1)), block(jump(1)), block(back(0))},
			"[[[4] [5]] [[4 6] [5 7]] [[6] [5 7]] [[6] [7]] [[6] [5 7]]]"},
		{"a block to which no way leads: empty sets, and what it sets comes nowhere", 2,
			[]ir.Block{block(jump(2)), block(jump(2), number(0)), block(back(0))},
			"[[[4] [5]] [[] []] [[4] [5]]]"},
		{"blocks to which no way leads, round in a circle, and back to block 0", 2,
			[]ir.Block{block(back(0)), block(branch(0, 2, 1), number(0)), block(branch(0, 1, 0), number(1))},
			"[[[4] [5]] [[] []] [[] []]]"},
		{"a Branch goes both ways, whatever its number is", 1,
			[]ir.Block{block(branch(0, 1, 2), number(0)), block(back(0)), block(jump(1), number(0))},
			"[[[4]] [[5 6]] [[5]]]"},
		{"a Branch both of whose blocks are one", 1, []ir.Block{block(branch(0, 1, 1), number(0)), block(back(0))}, "[[[4]] [[5]]]"},
		{"laid from behind", 1, []ir.Block{block(jump(3)), block(back(0)), block(jump(1), output(0)), block(branch(0, 2, 3), number(0))},
			"[[[4]] [[5]] [[5]] [[4 5]]]"},
		{"what sets no register is no site", 1, []ir.Block{block(jump(0), output(0), store(0))}, "[[[4]]]"},
	} {
		if got := Solve(only(t, c.regs, c.blocks...), 1); fmt.Sprint(got) != c.want {
			t.Errorf("%s: got %v, want %s", c.about, got, c.want)
		}
	}
}

// P16.1: of the other functions, too, and of the first one.
func TestSolveOfOthers(t *testing.T) {
	m := only(t, 1, block(jump(0), number(0)))
	if got := Solve(m, 0); fmt.Sprint(got) != "[[[0] [1]]]" {
		t.Error(got)
	}
	if got := Solve(m, 2); fmt.Sprint(got) != "[[[6]]]" {
		t.Error(got)
	}
}

// P16.1: the blocks ahead of which a site is in its register's set.
func TestMeets(t *testing.T) {
	m := only(t, 2,
		block(branch(0, 1, 3), number(1)),            // site 6
		block(branch(1, 1, 3), number(0), number(0)), // sites 7 and 8
		block(jump(3), number(1)),                    // site 9: no way leads here
		block(back(1), output(0)),
		block(jump(4), number(0))) // site 10
	if got := Solve(m, 1); fmt.Sprint(got) != "[[[4] [5]] [[4 8] [6]] [[] []] [[4 8] [6]] [[] []]]" {
		t.Fatal(got)
	}
	for site, want := range []string{
		"[0]", "[0]", "[]", "[]", // function 0: its registers, and what it sets ahead of Return
		"[0 1 3]", // register 0 at the beginning
		"[0]",     // register 1 at the beginning
		"[1 3]",   // set in block 0
		"[]",      // set again in the same block
		"[1 3]",   // set last in block 1, which goes on to itself
		"[]", "[]",
		"[0]", "[]", // function 2
		"[]", // no such site
	} {
		if got := Meets(m, site); fmt.Sprint(got) != want {
			t.Error(site, got, want)
		}
	}
	for _, site := range numbers {
		if got := Meets(m, site); len(got) != 0 {
			t.Error(site, got)
		}
		if got := Meets(ir.Module{}, site); len(got) != 0 {
			t.Error(site, got)
		}
	}
	if len(Meets(ir.Module{}, 0)) != 0 || len(Meets(m, ir.Sites(m))) != 0 {
		t.Error("no such site")
	}
}

// place is a block, and the site at which a register got its number last on a way ahead of it.
type place struct{ block, site int }

// ways are all places of register r on all ways, found from each one to the next.
func ways(m ir.Module, f, r int) map[place]bool {
	seen := map[place]bool{}
	todo := []place{{0, ir.First(m, f) + r}}
	for len(todo) > 0 {
		p := todo[0]
		todo = todo[1:]
		if seen[p] {
			continue
		}
		seen[p] = true
		block, site := m.Funcs[f].Blocks[p.block], p.site
		for i, x := range block.Insns {
			if d, sets := ir.Sets(x); sets && d == r {
				site = ir.Site(m, f, p.block, i)
			}
		}
		for _, to := range ir.Targets(block.End) {
			todo = append(todo, place{to, site})
		}
	}
	return seen
}

// asTheWays holds Solve and Meets of all functions of m against what is found on all ways.
func asTheWays(t *testing.T, m ir.Module) {
	t.Helper()
	for f, fn := range m.Funcs {
		got := Solve(m, f)
		if len(got) != len(fn.Blocks) {
			t.Fatal(m, f, got)
		}
		for r := range fn.Regs {
			found := ways(m, f, r)
			for b := range fn.Blocks {
				if len(got[b]) != fn.Regs || !bits.Right(ir.Sites(m), got[b][r]) {
					t.Fatal(m, f, b, got[b])
				}
				for site := range ir.Sites(m) {
					if bits.Has(got[b][r], site) != found[place{b, site}] {
						t.Fatal(m, f, b, r, site, got[b][r])
					}
				}
			}
		}
	}
	for site := range ir.Sites(m) {
		f, b, i := ir.Where(m, site)
		r := i
		if b >= 0 {
			r = m.Funcs[f].Blocks[b].Insns[i].D
		}
		found := ways(m, f, r)
		var want []int
		for b := range m.Funcs[f].Blocks {
			if found[place{b, site}] {
				want = append(want, b)
			}
		}
		if got := Meets(m, site); !bits.Same(got, want) {
			t.Fatal(m, site, got, want)
		}
	}
}

// P16.1: of modules by chance.
func TestByWays(t *testing.T) {
	source := rand.New(rand.NewSource(16))
	for range 400 {
		asTheWays(t, someModule(t, source, 8))
	}
}

// P16.1: Solve's of a block is all of Behind's of those that go on to it.
func TestSolveByBehind(t *testing.T) {
	source := rand.New(rand.NewSource(17))
	for range 500 {
		m := someModule(t, source, 12)
		for f, fn := range m.Funcs {
			all := Solve(m, f)
			from, reached := cfg.From(fn), cfg.Reached(fn)
			for b := range fn.Blocks {
				want := make([][]int, fn.Regs)
				if b == 0 {
					want = Begin(m, f)
				}
				for _, p := range from[b] {
					if !slices.Contains(reached, p) {
						continue
					}
					for r, set := range Behind(m, f, p, all[p]) {
						want[r] = bits.Union(want[r], set)
					}
				}
				if !slices.EqualFunc(all[b], want, bits.Same) {
					t.Fatal(m, f, b, all[b], want)
				}
			}
		}
	}
}

// P16.1: at the limits of functions, blocks, instructions and registers.
func TestMost(t *testing.T) {
	var m ir.Module
	for f := range 24 {
		fn := ir.Func{Name: fmt.Sprint("f", f), Regs: 8}
		for b := range 12 {
			insns := make([]ir.Insn, 12)
			for i := range insns {
				insns[i] = number((b*5 + i*i) % 8)
			}
			fn.Blocks = append(fn.Blocks, block(branch(0, (b*5+1)%12, (b*7+2)%12), insns...))
		}
		m.Funcs = append(m.Funcs, fn)
	}
	wellFormed(t, m)
	f := 23
	got := Solve(m, f)
	for r := range 8 {
		found := ways(m, f, r)
		for b := range 12 {
			for site := range ir.Sites(m) {
				if bits.Has(got[b][r], site) != found[place{b, site}] {
					t.Fatal(b, r, site, got[b][r])
				}
			}
		}
	}
	last := ir.Sites(m) - 1
	if last != 24*(8+144)-1 || len(Meets(m, last)) == 0 || len(Meets(m, last+1)) != 0 {
		t.Error(last, Meets(m, last))
	}
}
