package live

import (
	"fmt"
	"math"
	"math/rand"
	"slices"
	"testing"

	"averment/bits"
	"averment/ir"
)

// fn is a function with so many registers.
func fn(regs int, blocks ...ir.Block) ir.Func {
	return ir.Func{Name: "f", Regs: regs, Blocks: blocks}
}

func block(end ir.End, insns ...ir.Insn) ir.Block { return ir.Block{Insns: insns, End: end} }

func jump(to int) ir.End { return ir.End{Op: ir.Jump, To: to} }

func branch(a, to, other int) ir.End { return ir.End{Op: ir.Branch, A: a, To: to, Else: other} }

func back(a int) ir.End { return ir.End{Op: ir.Return, A: a} }

func number(d int) ir.Insn { return ir.Insn{Op: ir.Const, D: d, N: 5} }

func move(d, a int) ir.Insn { return ir.Insn{Op: ir.Move, D: d, A: a} }

func add(d, a, b int) ir.Insn { return ir.Insn{Op: ir.Add, D: d, A: a, B: b} }

func output(a int) ir.Insn { return ir.Insn{Op: ir.Output, A: a} }

// numbers are such as are no block, and no register.
var numbers = []int{math.MinInt, -9, -1, 12, 13, 4096, math.MaxInt}

// wellFormed fails, if f isn't a function of a well-formed module with cells, and with imports of functions 1 to 5 of 0 to 4 arguments.
func wellFormed(t *testing.T, f ir.Func) {
	t.Helper()
	m := ir.Module{Cells: []int64{1, 2}, Funcs: []ir.Func{f}}
	for n := range 5 {
		m.Imports = append(m.Imports, ir.Import{Name: fmt.Sprint("g", n), Arity: n})
	}
	if e := ir.Check(m); e != nil {
		t.Fatal(e, f)
	}
}

// P15.1: each instruction, by hand.
func TestInsn(t *testing.T) {
	for _, c := range []struct {
		about       string
		x           ir.Insn
		after, want []int
	}{
		{"Const sets one that counts", number(1), []int{0, 1, 2}, []int{0, 2}},
		{"Const sets one that doesn't count", number(1), []int{0, 2}, []int{0, 2}},
		{"nothing counts behind it", number(0), nil, nil},
		{"Move", move(1, 3), []int{1}, []int{3}},
		{"Move of one that counts already", move(1, 3), []int{1, 3}, []int{3}},
		{"Move to itself", move(1, 1), []int{1}, []int{1}},
		{"Move to itself, and it doesn't count behind it", move(1, 1), nil, []int{1}},
		{"what it reads counts, though what it sets doesn't", move(1, 3), []int{0}, []int{0, 3}},
		{"Neg", ir.Insn{Op: ir.Neg, D: 2, A: 0}, []int{1, 2}, []int{0, 1}},
		{"Add", add(0, 1, 2), []int{0}, []int{1, 2}},
		{"Add, from above to below", add(0, 2, 1), []int{0, 7}, []int{1, 2, 7}},
		{"Add sets the first one that it reads", add(1, 1, 2), []int{0, 1}, []int{0, 1, 2}},
		{"Add sets the second one that it reads", add(2, 1, 2), []int{0, 2}, []int{0, 1, 2}},
		{"Add reads one twice", add(0, 3, 3), []int{0, 3}, []int{3}},
		{"Add sets the one that it reads twice", add(3, 3, 3), []int{3}, []int{3}},
		{"Load's B is a cell", ir.Insn{Op: ir.Load, D: 0, B: 3}, []int{0, 1}, []int{1}},
		{"Store sets none: D is 0 as it isn't used; B is a cell", ir.Insn{Op: ir.Store, A: 1, B: 4}, []int{0, 2}, []int{0, 1, 2}},
		{"Store of one that counts", ir.Insn{Op: ir.Store, A: 0}, []int{0}, []int{0}},
		{"Output sets none", output(2), []int{0}, []int{0, 2}},
		{"Output with nothing behind it", output(0), nil, []int{0}},
		{"Input", ir.Insn{Op: ir.Input, D: 4}, []int{3, 4}, []int{3}},
		{"Call: B is a function", ir.Insn{Op: ir.Call, D: 0, B: 5, Args: []int{3, 1, 3}}, []int{0, 2}, []int{1, 2, 3}},
		{"Call sets one of its arguments", ir.Insn{Op: ir.Call, D: 3, Args: []int{4, 3}}, []int{3}, []int{3, 4}},
		{"Call without arguments", ir.Insn{Op: ir.Call, D: 0, B: 1}, []int{0, 6}, []int{6}},
		{"no such Op", ir.Insn{Op: 18, D: 1, A: 2, B: 3, Args: []int{4}}, []int{1}, []int{1}},
		{"the zero instruction", ir.Insn{}, []int{0, 1}, []int{0, 1}},
	} {
		if got := Insn(c.x, c.after); !bits.Same(got, c.want) {
			t.Errorf("%s: got %v, want %v", c.about, got, c.want)
		}
	}
}

// P15.1: Div and Rem read what they set, as all of two registers do.
func TestInsnOfTwoRegisters(t *testing.T) {
	for op := ir.Add; op <= ir.Same; op++ {
		if got := Insn(ir.Insn{Op: op, D: 5, A: 6, B: 2}, []int{1, 5, 7}); !bits.Same(got, []int{1, 2, 6, 7}) {
			t.Error(op, got)
		}
		if got := Insn(ir.Insn{Op: op, D: 5, A: 5, B: 2}, nil); !bits.Same(got, []int{2, 5}) {
			t.Error(op, got)
		}
	}
}

// P15.1: the End, then the instructions from the last one to the first.
func TestBlock(t *testing.T) {
	for _, c := range []struct {
		about       string
		b           ir.Block
		after, want []int
	}{
		{"the document's example", block(back(1), number(1)), nil, nil},
		{"an End that reads one", block(branch(2, 0, 0)), []int{0, 4}, []int{0, 2, 4}},
		{"an End that reads one that counts", block(branch(2, 0, 0)), []int{2}, []int{2}},
		{"an End that reads none", block(jump(0)), []int{0, 4}, []int{0, 4}},
		{"an End that reads none, and nothing behind it", block(jump(0)), nil, nil},
		{"Return reads one", block(back(3)), nil, []int{3}},
		{"after counts, whatever the End is", block(back(3)), []int{1}, []int{1, 3}},
		{"what the End reads is set ahead of it", block(branch(2, 0, 0), number(2)), []int{0, 2}, []int{0}},
		{"set, then read", block(jump(0), number(1), output(1)), []int{1}, nil},
		{"read, then set", block(jump(0), output(1), number(1)), nil, []int{1}},
		{"one behind the other", block(back(0), move(1, 2), move(0, 1)), nil, []int{2}},
		{"one behind the other, the other way round", block(back(0), move(0, 1), move(1, 2)), nil, []int{1, 2}},
		{"read between", block(jump(0), number(1), output(0), number(0), output(1)), []int{0, 1}, []int{0}},
		{"set again and again", block(jump(0), number(1), number(1), add(1, 1, 0), number(1)), []int{1}, []int{0}},
		{"a loop's body", block(branch(0, 0, 0), add(1, 1, 0), ir.Insn{Op: ir.Input, D: 0}), []int{0, 1}, []int{0, 1}},
	} {
		f := fn(8, c.b, block(back(7), output(6)))
		wellFormed(t, f)
		if got := Block(f, 0, c.after); !bits.Same(got, c.want) {
			t.Errorf("%s: got %v, want %v", c.about, got, c.want)
		}
		if got := Block(f, 1, c.after); !bits.Same(got, bits.Union(c.after, []int{6, 7})) {
			t.Errorf("%s: block 1: %v", c.about, got)
		}
	}
}

// P15.1: of no such block: after.
func TestNoSuchBlock(t *testing.T) {
	f := fn(3, block(back(1), output(2)), block(jump(0), number(0)))
	for _, b := range append(numbers, 2) {
		for _, after := range [][]int{nil, {}, {0}, {0, 1, 2}} {
			if got := Block(f, b, after); !bits.Same(got, after) {
				t.Error("Block", b, after, got)
			}
		}
		if got := After(f, b, [][]int{{0}, {1}, {2}}); len(got) != 0 {
			t.Error("After", b, got)
		}
	}
	if got := Block(ir.Func{}, 0, []int{4}); !bits.Same(got, []int{4}) {
		t.Error(got)
	}
	if got := After(ir.Func{}, 0, [][]int{{4}}); len(got) != 0 {
		t.Error(got)
	}
}

// P15.1: all of live of each Target together.
func TestAfter(t *testing.T) {
	f := fn(4, block(jump(2)), block(branch(3, 2, 1)), block(back(3)), block(branch(3, 0, 0)), block(branch(3, 4, 0)))
	wellFormed(t, f)
	live := [][]int{{0, 2}, {1, 2}, {0, 3}, {3}, nil}
	for _, c := range []struct {
		about string
		b     int
		live  [][]int
		want  []int
	}{
		{"Jump", 0, live, []int{0, 3}},
		{"Branch", 1, live, []int{0, 1, 2, 3}},
		{"Return goes on nowhere", 2, live, nil},
		{"a Branch both of whose blocks are one", 3, live, []int{0, 2}},
		{"one of both has none", 4, live, []int{0, 2}},
		{"a Target beyond live", 0, live[:2], nil},
		{"one of two Targets beyond live", 1, live[:2], []int{1, 2}},
		{"both Targets beyond live", 1, live[:1], nil},
		{"the block itself beyond live", 4, live[:1], []int{0, 2}},
		{"no live", 1, nil, nil},
		{"more live than blocks", 1, append(slices.Clone(live), []int{1}), []int{0, 1, 2, 3}},
	} {
		if got := After(f, c.b, c.live); !bits.Same(got, c.want) {
			t.Errorf("%s: got %v, want %v", c.about, got, c.want)
		}
	}
}

// P15.1: Targets that are no blocks at all count as none.
func TestAfterOfNoTarget(t *testing.T) {
	live := [][]int{{0}, {1}}
	for _, to := range append(numbers, 2) {
		f := fn(2, block(branch(0, to, 1)), block(jump(to)))
		if got := After(f, 0, live); !bits.Same(got, []int{1}) {
			t.Error(to, got)
		}
		if got := After(f, 1, live); len(got) != 0 {
			t.Error(to, got)
		}
	}
}

// P15.1: a set for each block, below Regs; else Check answers -2.
func TestRight(t *testing.T) {
	f := fn(3, block(jump(1)), block(back(2)))
	wellFormed(t, f)
	all := []int{0, 1, 2}
	for _, c := range []struct {
		about string
		live  [][]int
		want  bool
	}{
		{"all", [][]int{all, all}, true},
		{"none", [][]int{nil, {}}, true},
		{"the last register", [][]int{{2}, {2}}, true},
		{"no sets", nil, false},
		{"too few", [][]int{all}, false},
		{"too many", [][]int{all, all, all}, false},
		{"too many, with nothing", [][]int{all, all, nil}, false},
		{"at Regs", [][]int{all, {0, 3}}, false},
		{"beyond Regs", [][]int{{4}, all}, false},
		{"far beyond Regs", [][]int{{2, math.MaxInt}, all}, false},
		{"below 0", [][]int{{-1, 2}, all}, false},
		{"twice", [][]int{{2, 2}, all}, false},
		{"falling", [][]int{all, {2, 1}}, false},
		{"falling in the first one alone", [][]int{{2, 0, 1}, all}, false},
	} {
		if got := Right(f, c.live); got != c.want {
			t.Errorf("%s: Right %v", c.about, got)
		}
		if got := Check(f, c.live); (got == -2) == c.want {
			t.Errorf("%s: Check %v", c.about, got)
		}
	}
	if !Right(ir.Func{}, nil) || Right(ir.Func{}, [][]int{nil}) || Check(ir.Func{}, nil) != -1 {
		t.Error("a function without blocks")
	}
}

// three is a function: block 0 sets and reads register 0, 1 goes on to itself with 1, 2 returns 2.
func three() ir.Func {
	return fn(3, block(jump(1), number(0), output(0)), block(branch(1, 1, 2)), block(back(2)))
}

// P15.1: the first block at which it isn't so.
func TestCheck(t *testing.T) {
	f := three()
	wellFormed(t, f)
	for _, c := range []struct {
		about string
		live  [][]int
		want  int
	}{
		{"just what counts", [][]int{{1, 2}, {1, 2}, {2}}, -1},
		{"more than counts", [][]int{{0, 1, 2}, {1, 2}, {1, 2}}, -1},
		{"more at block 0 alone", [][]int{{0, 1, 2}, {1, 2}, {2}}, -1},
		{"block 0 alone", [][]int{{1}, {1, 2}, {2}}, 0},
		{"block 0 alone, with another one in its place", [][]int{{0, 1}, {1, 2}, {2}}, 0},
		{"between", [][]int{{1, 2}, {2}, {2}}, 1},
		{"the last block alone, with another one in its place", [][]int{{1, 2}, {1, 2}, {1}}, 2},
		{"the last block alone", [][]int{{1, 2}, {1, 2}, nil}, 2},
		{"the first and the last one", [][]int{nil, {1, 2}, nil}, 0},
		{"what a block sets needn't count ahead of it", [][]int{{0}, {0}, {0}}, 1},
		{"nothing anywhere", [][]int{nil, nil, nil}, 1},
		{"more ahead of a block is needed ahead of those that go on to it", [][]int{{1, 2}, {0, 1, 2}, {0, 2}}, -1},
		{"more at the last block isn't ahead of the one that goes on to it", [][]int{{1, 2}, {1, 2}, {0, 2}}, 1},
		{"not Right, and not so at block 0", [][]int{nil, nil, {3}}, -2},
		{"too few", [][]int{{1, 2}, {1, 2}}, -2},
	} {
		if got := Check(f, c.live); got != c.want {
			t.Errorf("%s: got %d, want %d", c.about, got, c.want)
		}
	}
}

// P15.1: the least that counts, by hand.
func TestSolve(t *testing.T) {
	for _, c := range []struct {
		about string
		f     ir.Func
		want  string
	}{
		{"the document's example", fn(2, block(back(1), number(1))), "[[]]"},
		{"a block that reads all", fn(3, block(back(2), output(0), output(1))), "[[0 1 2]]"},
		{"blocks that are named", three(), "[[1 2] [1 2] [2]]"},
		{"a loop of one block", fn(2, block(branch(0, 0, 0), add(1, 1, 1))), "[[0 1]]"},
		{"a loop that only sets", fn(2, block(jump(0), number(1))), "[[]]"},
		{"a loop that reads what it set the round ahead", fn(2, block(jump(1), number(1)), block(branch(0, 1, 2), output(1), number(1)), block(back(0))), "[[0] [0 1] [0]]"},
		{"what is read behind a loop counts in all of it", fn(4,
			block(jump(1)), block(branch(1, 2, 3)), block(jump(1), move(1, 0)), block(back(2), number(3))),
			"[[0 1 2] [0 1 2] [0 2] [2]]"},
		{"loops in one another", fn(5,
			block(jump(1)),
			block(branch(0, 2, 5)),
			block(branch(1, 3, 4)),
			block(jump(2), ir.Insn{Op: ir.Sub, D: 1, A: 1, B: 2}),
			block(jump(1), add(0, 0, 3)),
			block(back(4))),
			"[[0 1 2 3 4] [0 1 2 3 4] [0 1 2 3 4] [0 1 2 3 4] [0 1 2 3 4] [4]]"},
		{"loops in one another, the inner one sets what it reads", fn(3,
			block(jump(1), number(0)),
			block(branch(0, 2, 4), number(1)),
			block(branch(1, 2, 3), add(1, 1, 2)),
			block(jump(1), move(0, 1)),
			block(back(0))),
			"[[2] [0 2] [1 2] [1 2] [0]]"},
		{"a block to which no way leads counts its own", fn(3, block(back(0)), block(jump(0), output(1)), block(jump(2), output(2))), "[[0] [0 1] [2]]"},
		{"a block to which no way leads doesn't count elsewhere", fn(2, block(jump(2)), block(branch(1, 1, 2)), block(back(0))), "[[0] [0 1] [0]]"},
		{"two ways, one that sets and one that reads", fn(3,
			block(branch(0, 1, 2)), block(jump(3), number(1)), block(jump(3), output(2)), block(back(1))),
			"[[0 1 2] [] [1 2] [1]]"},
		{"a Branch both of whose blocks are one reads, too", fn(2, block(branch(1, 1, 1)), block(back(0), number(0))), "[[1] []]"},
	} {
		wellFormed(t, c.f)
		got := Solve(c.f)
		if fmt.Sprint(got) != c.want {
			t.Errorf("%s: got %v, want %s", c.about, got, c.want)
		}
		if at := Check(c.f, got); at != -1 {
			t.Errorf("%s: Check has %d", c.about, at)
		}
	}
	if len(Solve(ir.Func{})) != 0 {
		t.Error("a function without blocks")
	}
}

// all hands each live of f on, with a set for each of its blocks.
func all(f ir.Func, each func(live [][]int)) {
	var fill func(ahead [][]int)
	fill = func(ahead [][]int) {
		if len(ahead) == len(f.Blocks) {
			each(ahead)
			return
		}
		for mask := range 1 << f.Regs {
			var set []int
			for r := range f.Regs {
				if mask>>r&1 == 1 {
					set = append(set, r)
				}
			}
			fill(append(slices.Clone(ahead), set))
		}
	}
	fill(nil)
}

// P15.1: of small functions by chance: Solve's is within each live at which Check has none, and is one; Check tells the first block by Block's and After's words.
func TestLeastOfAll(t *testing.T) {
	source := rand.New(rand.NewSource(15))
	refused := make([]int, 3)
	for range 300 {
		f := someFunc(source, 1+source.Intn(3), 1+source.Intn(3))
		wellFormed(t, f)
		least := Solve(f)
		met := false
		all(f, func(live [][]int) {
			got, want := Check(f, live), firstWrong(f, live)
			if got != want {
				t.Fatal(f, live, got, want)
			}
			if got >= 0 {
				refused[got]++
				return
			}
			if !slices.EqualFunc(least, live, bits.Within) {
				t.Fatal(f, live, least)
			}
			met = met || slices.EqualFunc(least, live, bits.Same)
		})
		if !met {
			t.Fatal("Solve's isn't so", f, least)
		}
	}
	if slices.Min(refused) < 100 {
		t.Error("too few", refused)
	}
}

// firstWrong is the first block at which a register counts that live doesn't have: it is read ahead of being set, or isn't set and live behind.
func firstWrong(f ir.Func, live [][]int) int {
	for b, block := range f.Blocks {
		for r := range f.Regs {
			if !slices.Contains(live[b], r) && countsIn(block, r, live) {
				return b
			}
		}
	}
	return -1
}

// countsIn tells whether register r counts ahead of a block, going through it from its beginning on.
func countsIn(block ir.Block, r int, live [][]int) bool {
	for _, x := range block.Insns {
		if slices.Contains(ir.Uses(x), r) {
			return true
		}
		if d, sets := ir.Sets(x); sets && d == r {
			return false
		}
	}
	if slices.Contains(ir.Reads(block.End), r) {
		return true
	}
	return slices.ContainsFunc(ir.Targets(block.End), func(to int) bool { return slices.Contains(live[to], r) })
}

// P15.1: of greater functions by chance: a register counts just if a way leads to where it is read, and it isn't set on it.
func TestSolveByWays(t *testing.T) {
	source := rand.New(rand.NewSource(16))
	for range 2000 {
		f := someFunc(source, 1+source.Intn(12), 1+source.Intn(8))
		wellFormed(t, f)
		live := Solve(f)
		if len(live) != len(f.Blocks) || !Right(f, live) || Check(f, live) != -1 {
			t.Fatal(f, live)
		}
		for b := range f.Blocks {
			for r := range f.Regs {
				if slices.Contains(live[b], r) != counts(f, b, r, make([]bool, len(f.Blocks))) {
					t.Fatal(f, live, b, r)
				}
			}
		}
	}
}

// counts tells whether a way from block b reads r ahead of setting it.
func counts(f ir.Func, b, r int, seen []bool) bool {
	if seen[b] {
		return false
	}
	seen[b] = true
	for _, x := range f.Blocks[b].Insns {
		if slices.Contains(ir.Uses(x), r) {
			return true
		}
		if d, sets := ir.Sets(x); sets && d == r {
			return false
		}
	}
	if slices.Contains(ir.Reads(f.Blocks[b].End), r) {
		return true
	}
	return slices.ContainsFunc(ir.Targets(f.Blocks[b].End), func(to int) bool { return counts(f, to, r, seen) })
}

// P15.1: at the limits of blocks, instructions and registers.
func TestMost(t *testing.T) {
	var blocks []ir.Block
	for b := range 12 {
		var insns []ir.Insn
		for i := range 12 {
			insns = append(insns, move((b+i)%8, (b+i+1)%8))
		}
		blocks = append(blocks, block(branch(b%8, (b+1)%12, 11), insns...))
	}
	blocks[11].End = back(7)
	f := fn(8, blocks...)
	wellFormed(t, f)
	live := Solve(f)
	for b := range 12 {
		for r := range 8 {
			if slices.Contains(live[b], r) != counts(f, b, r, make([]bool, 12)) {
				t.Error(b, r, live)
			}
		}
	}
	f = fn(8, block(jump(1)))
	for b := 1; b < 11; b++ {
		f.Blocks = append(f.Blocks, block(branch(0, b+1, b-1)))
	}
	f.Blocks = append(f.Blocks, block(back(7), output(6), output(5)))
	wellFormed(t, f)
	live = Solve(f)
	for b := range 11 {
		if !bits.Same(live[b], []int{0, 5, 6, 7}) {
			t.Error(b, live)
		}
	}
}
