package cfg

import (
	"fmt"
	"math"
	"math/rand"
	"reflect"
	"slices"
	"strconv"
	"strings"
	"testing"

	"averment/ir"
)

// made is a function of blocks written as "1;2,3;1;-": a Jump, a Branch, a Jump, a Return. Each block has a Const with its number, by which it is known wherever it is laid.
func made(text string) ir.Func {
	f := ir.Func{Name: "f", Arity: 1, Regs: 2}
	for b, word := range strings.Split(text, ";") {
		block := ir.Block{Insns: []ir.Insn{{Op: ir.Const, D: 1, N: int64(b)}}}
		to, other, branch := strings.Cut(word, ",")
		switch {
		case word == "-":
			block.End = ir.End{Op: ir.Return, A: 1}
		case branch:
			block.End = ir.End{Op: ir.Branch, A: 1, To: number(to), Else: number(other)}
		default:
			block.End = ir.End{Op: ir.Jump, To: number(to)}
		}
		f.Blocks = append(f.Blocks, block)
	}
	return f
}

func number(s string) int {
	n, e := strconv.Atoi(s)
	if e != nil {
		panic(e)
	}
	return n
}

// written is the way back: the Ends of f's blocks.
func written(f ir.Func) string {
	var words []string
	for _, b := range f.Blocks {
		switch b.End.Op {
		case ir.Jump:
			words = append(words, fmt.Sprint(b.End.To))
		case ir.Branch:
			words = append(words, fmt.Sprintf("%d,%d", b.End.To, b.End.Else))
		default:
			words = append(words, "-")
		}
	}
	return strings.Join(words, ";")
}

// tags tells which blocks f has by the numbers that they had when they were made.
func tags(f ir.Func) []int {
	var all []int
	for _, b := range f.Blocks {
		all = append(all, int(b.Insns[0].N))
	}
	return all
}

// wellFormed fails if f isn't one of a well-formed module: of others nothing is promised.
func wellFormed(t *testing.T, f ir.Func) {
	t.Helper()
	if e := ir.Check(ir.Module{Funcs: []ir.Func{f}}); e != nil {
		t.Fatal(written(f), e)
	}
}

func show(x any) string { return strings.Trim(fmt.Sprint(x), "[]") }

// P6.1: hand-made functions, at the edges that the chapter names.
func TestAnswers(t *testing.T) {
	for _, c := range []struct {
		about, f                                        string
		next, from, cuts, reached, backs, order, relaid string
		laid                                            string
	}{
		{"the document's example", "1;2,3;1;-",
			"[1] [2 3] [1] []", "[] [0 2] [1] [1]", "0 1", "0 1 2 3", "[2 1]", "0 1 3 2", "1;3,2;-;1", "0 1 3 2"},
		{"one block", "-",
			"[]", "[]", "0", "0", "", "0", "-", "0"},
		{"one block that goes on to itself", "0",
			"[0]", "[0]", "0", "0", "[0 0]", "0", "0", "0"},
		{"a later block that goes on to itself", "1;1,2;-",
			"[1] [1 2] []", "[] [0 1] [1]", "0 1", "0 1 2", "[1 1]", "0 1 2", "1;1,2;-", "0 1 2"},
		{"a Branch both of whose blocks are one", "1,1;-",
			"[1] []", "[] [0]", "0", "0 1", "", "0 1", "1,1;-", "0 1"},
		{"a Branch both of whose blocks are itself", "0,0",
			"[0]", "[0]", "0", "0", "[0 0]", "0", "0,0", "0"},
		{"a Branch to itself twice, further on", "1;1,1",
			"[1] [1]", "[] [0 1]", "0 1", "0 1", "[1 1]", "0 1", "1;1,1", "0 1"},
		{"back to block 0", "1;0",
			"[1] [0]", "[1] [0]", "0", "0 1", "[1 0]", "0 1", "1;0", "0 1"},
		{"Else counts behind To", "2,1;-;-",
			"[2 1] [] []", "[] [0] [0]", "0", "0 1 2", "", "0 1 2", "2,1;-;-", "0 1 2"},
		{"To is closed ahead of Else", "1,2;-;-",
			"[1 2] [] []", "[] [0] [0]", "0", "0 1 2", "", "0 2 1", "2,1;-;-", "0 2 1"},
		{"a block that is closed already", "1,2;3;3;-",
			"[1 2] [3] [3] []", "[] [0] [0] [1 2]", "0", "0 1 2 3", "", "0 2 1 3", "2,1;3;3;-", "0 2 1 3"},
		{"an edge to a closed block is none of Backs, though it goes to a smaller number", "1,2;-;1",
			"[1 2] [] [1]", "[] [0 2] [0]", "0 1", "0 1 2", "", "0 2 1", "2,1;2;-", "0 2 1"},
		{"two edges back, in the order in which they are looked at", "1;2,0;1,0",
			"[1] [2 0] [1 0]", "[1 2] [0 2] [1]", "0 1", "0 1 2", "[2 1] [2 0] [1 0]", "0 1 2", "1;2,0;1,0", "0 1 2"},
		{"a block that nobody leads to", "2;2;-",
			"[2] [2] []", "[] [] [0 1]", "0", "0 2", "", "0 2", "1;-;1", "0 2 1"},
		{"blocks that nobody leads to, round in a circle", "3;2;1;-",
			"[3] [2] [1] []", "[] [2] [1] [0]", "0 1", "0 3", "", "0 3", "1;-;3;2", "0 3 1 2"},
		{"a block that nobody leads to goes back to one that is reached", "1;-;1",
			"[1] [] [1]", "[] [0 2] []", "0 1", "0 1", "", "0 1", "1;-;1", "0 1 2"},
		{"a block that nobody leads to goes back to block 0", "-;0,1",
			"[] [0 1]", "[1] [1]", "0 1", "0", "", "0", "-;0,1", "0 1"},
		{"no more than block 0 is reached", "0;2;1,0",
			"[0] [2] [1 0]", "[0 2] [2] [1]", "0 1", "0", "[0 0]", "0", "0;2;1,0", "0 1 2"},
		{"laid from behind", "3;-;1;2",
			"[3] [] [1] [2]", "[] [2] [3] [0]", "0 1 2", "0 1 2 3", "", "0 3 2 1", "1;2;3;-", "0 3 2 1"},
	} {
		f := made(c.f)
		wellFormed(t, f)
		g := Relaid(f)
		for _, x := range []struct{ call, got, want string }{
			{"Next", show(Next(f)), strings.Trim(c.next, "[]")},
			{"From", show(From(f)), strings.Trim(c.from, "[]")},
			{"Cuts", show(Cuts(f)), c.cuts},
			{"Reached", show(Reached(f)), c.reached},
			{"Backs", show(Backs(f)), strings.Trim(c.backs, "[]")},
			{"Order", show(Order(f)), c.order},
			{"Relaid's Ends", written(g), c.relaid},
			{"Relaid's blocks", show(tags(g)), c.laid},
		} {
			if x.got != x.want {
				t.Errorf("%s (%s): %s: got %s, want %s", c.about, c.f, x.call, x.got, x.want)
			}
		}
	}
}

// model goes through a function depth first as the document tells it, call within call.
type model struct {
	f           ir.Func
	seen, isOff map[int]bool
	backs       [][2]int
	order       []int
}

func modelOf(f ir.Func) *model {
	m := &model{f: f, seen: map[int]bool{}, isOff: map[int]bool{}}
	m.open(0)
	return m
}

func (m *model) open(b int) {
	m.seen[b] = true
	for _, to := range ir.Targets(m.f.Blocks[b].End) {
		if !m.seen[to] {
			m.open(to)
		} else if !m.isOff[to] {
			m.backs = append(m.backs, [2]int{b, to})
		}
	}
	m.isOff[b] = true
	m.order = append([]int{b}, m.order...)
}

// goesOn tells whether there is an edge from one block to another one.
func goesOn(f ir.Func, from, to int) bool {
	return slices.Contains(ir.Targets(f.Blocks[from].End), to)
}

// blocksWith are the blocks, rising, of which that is so.
func blocksWith(f ir.Func, is func(b int) bool) []int {
	var all []int
	for b := range f.Blocks {
		if is(b) {
			all = append(all, b)
		}
	}
	return all
}

// asTheModel holds all answers of f against those that the document's words give.
func asTheModel(t *testing.T, f ir.Func) {
	t.Helper()
	wellFormed(t, f)
	m := modelOf(f)
	for b := range f.Blocks {
		if !slices.Equal(Next(f)[b], ir.Targets(f.Blocks[b].End)) {
			t.Fatal(written(f), "Next", Next(f))
		}
		if !slices.Equal(From(f)[b], blocksWith(f, func(p int) bool { return goesOn(f, p, b) })) {
			t.Fatal(written(f), "From", From(f))
		}
	}
	if len(Next(f)) != len(f.Blocks) || len(From(f)) != len(f.Blocks) {
		t.Fatal(written(f), Next(f), From(f))
	}
	cuts := blocksWith(f, func(b int) bool {
		return b == 0 || slices.ContainsFunc(blocksWith(f, func(p int) bool { return goesOn(f, p, b) }), func(p int) bool { return p >= b })
	})
	reached := blocksWith(f, func(b int) bool { return m.seen[b] })
	if !slices.Equal(Cuts(f), cuts) || !slices.Equal(Reached(f), reached) {
		t.Fatal(written(f), "Cuts", Cuts(f), cuts, "Reached", Reached(f), reached)
	}
	if !slices.Equal(Backs(f), m.backs) || !slices.Equal(Order(f), m.order) {
		t.Fatal(written(f), "Backs", Backs(f), m.backs, "Order", Order(f), m.order)
	}
	relaidAsTold(t, f, append(slices.Clone(m.order), blocksWith(f, func(b int) bool { return !m.seen[b] })...))
}

// relaidAsTold holds Relaid against f with its blocks in that order.
func relaidAsTold(t *testing.T, f ir.Func, order []int) {
	t.Helper()
	g := Relaid(f)
	wellFormed(t, g)
	if g.Name != f.Name || g.Arity != f.Arity || g.Regs != f.Regs || len(g.Blocks) != len(f.Blocks) {
		t.Fatal(written(f), "Relaid", g)
	}
	for b, old := range order {
		e, was := g.Blocks[b].End, f.Blocks[old].End
		if !reflect.DeepEqual(g.Blocks[b].Insns, f.Blocks[old].Insns) || e.Op != was.Op || e.A != was.A {
			t.Fatal(written(f), "Relaid", g.Blocks[b], f.Blocks[old])
		}
		if e.Op != ir.Return && order[e.To] != was.To || e.Op == ir.Branch && order[e.Else] != was.Else {
			t.Fatal(written(f), "Relaid", e, was)
		}
	}
}

// small hands each function of so many blocks on.
func small(n int, each func(f ir.Func)) {
	words := []string{"-"}
	for to := range n {
		words = append(words, fmt.Sprint(to))
		for other := range n {
			words = append(words, fmt.Sprintf("%d,%d", to, other))
		}
	}
	var fill func(ahead []string)
	fill = func(ahead []string) {
		if len(ahead) == n {
			each(made(strings.Join(ahead, ";")))
			return
		}
		for _, w := range words {
			fill(append(slices.Clone(ahead), w))
		}
	}
	fill(nil)
}

// some hands functions of any number of blocks on, by chance from a seed.
func some(each func(f ir.Func)) {
	source := rand.New(rand.NewSource(6))
	for range 3000 {
		n := 1 + source.Intn(12)
		var words []string
		for range n {
			switch source.Intn(5) {
			case 0:
				words = append(words, "-")
			case 1, 2:
				words = append(words, fmt.Sprint(source.Intn(n)))
			default:
				words = append(words, fmt.Sprintf("%d,%d", source.Intn(n), source.Intn(n)))
			}
		}
		each(made(strings.Join(words, ";")))
	}
}

// every hands all small functions on, and some greater ones.
func every(each func(f ir.Func)) {
	for n := 1; n <= 3; n++ {
		small(n, each)
	}
	some(each)
}

// P6.1: all small functions, and greater ones.
func TestAsTheWordsSay(t *testing.T) {
	every(func(f ir.Func) { asTheModel(t, f) })
}

// P6.1: a function at the limit of blocks.
func TestMostBlocks(t *testing.T) {
	f := made("11;10;9;8;7;6;5,0;4;3;2,11;1;-")
	asTheModel(t, f)
	if show(Order(f)) != "0 11" || show(Cuts(f)) != "0 1 2 3 4 5" {
		t.Error(Order(f), Cuts(f))
	}
	asTheModel(t, made("1,11;2;3;4;5;6;7;8;9;10;11,0;0,5"))
}

// P6.2: what is left without the cut points goes round nowhere, and goes up alone.
func TestCirclesGoThroughCuts(t *testing.T) {
	every(func(f ir.Func) {
		cuts := Cuts(f)
		if !slices.IsSorted(cuts) || cuts[0] != 0 {
			t.Fatal(written(f), cuts)
		}
		for b, next := range Next(f) {
			for _, to := range next {
				if to <= b && !slices.Contains(cuts, to) {
					t.Fatal(written(f), cuts, b, to)
				}
			}
		}
		for b := range f.Blocks {
			if !slices.Contains(cuts, b) && comesBack(f, cuts, b) {
				t.Fatal(written(f), cuts, "a circle at", b)
			}
		}
	})
}

// comesBack tells whether b leads to itself without a cut point between.
func comesBack(f ir.Func, cuts []int, b int) bool {
	seen := make([]bool, len(f.Blocks))
	todo := []int{b}
	for len(todo) > 0 {
		at := todo[0]
		todo = todo[1:]
		for _, to := range ir.Targets(f.Blocks[at].End) {
			if to == b {
				return true
			}
			if !seen[to] && !slices.Contains(cuts, to) {
				seen[to] = true
				todo = append(todo, to)
			}
		}
	}
	return false
}

// P6.3: the cut points of what was Relaid; Relaid again it stays.
func TestRelaidAgain(t *testing.T) {
	whole := 0
	every(func(f ir.Func) {
		g := Relaid(f)
		if !reflect.DeepEqual(Relaid(g), g) {
			t.Fatal(written(f), written(g), written(Relaid(g)))
		}
		if len(Reached(f)) != len(f.Blocks) {
			return
		}
		whole++
		want := []int{0}
		for _, edge := range Backs(g) {
			want = append(want, edge[1])
		}
		slices.Sort(want)
		if !slices.Equal(Cuts(g), slices.Compact(want)) {
			t.Fatal(written(f), written(g), Cuts(g), want)
		}
	})
	if whole < 500 {
		t.Error(whole)
	}
}

// P6.3: of blocks that nobody leads to, too, the Ends go on to the same blocks, and Relaid again all stays.
func TestRelaidOfWhatIsNotReached(t *testing.T) {
	f := made("4;0,2;3;1,5;-;4,1")
	g := Relaid(f)
	if written(g) != "1;-;0,3;4;2,5;1,2" || show(tags(g)) != "0 4 1 2 3 5" {
		t.Error(written(g), tags(g))
	}
	if written(Relaid(g)) != written(g) {
		t.Error(written(Relaid(g)))
	}
}

// roomy is a function all of whose lists have room to spare, filled with what must stay.
func roomy() ir.Func {
	insns := make([]ir.Insn, 2, 4)
	insns[0] = ir.Insn{Op: ir.Const, D: 1, N: 7}
	insns[1] = ir.Insn{Op: ir.Call, D: 1, Args: append(make([]int, 0, 4), 1)}
	insns[:4][3] = ir.Insn{Op: 99}
	insns[1].Args[:4][3] = 99
	blocks := append(make([]ir.Block, 0, 6), made("2,3;0;1,3;-").Blocks...)
	blocks[2].Insns = insns
	blocks[:6][5] = ir.Block{End: ir.End{Op: 99}}
	return ir.Func{Name: "f", Arity: 1, Regs: 2, Blocks: blocks}
}

// whole is all of roomy, its spare room, too.
func whole(f ir.Func) string {
	insns := f.Blocks[2].Insns
	return fmt.Sprint(f, f.Blocks[:6], insns[:4], insns[1].Args[:4])
}

// answers are those of all calls, as text.
func answers(f ir.Func) string {
	return fmt.Sprint(Next(f), From(f), Cuts(f), Reached(f), Backs(f), Order(f), Relaid(f))
}

// P6.4: nothing that is handed in is changed, its spare room neither.
func TestNothingIsChanged(t *testing.T) {
	f := roomy()
	wellFormed(t, f)
	before := whole(f)
	answers(f)
	if whole(f) != before {
		t.Error("changed", whole(f), before)
	}
}

// P6.4: answers are new memory: who spoils one spoils nothing else.
func TestAnswersAreNewMemory(t *testing.T) {
	f := roomy()
	before, told := whole(f), answers(f)
	for _, lists := range [][][]int{Next(f), From(f), {Cuts(f)}, {Reached(f)}, {Order(f)}} {
		for _, l := range lists {
			spoil(l)
		}
	}
	for _, edge := range [][][2]int{Backs(f)} {
		clear(edge)
	}
	g := Relaid(f)
	for b := range g.Blocks {
		for i := range g.Blocks[b].Insns {
			spoil(g.Blocks[b].Insns[i].Args)
			g.Blocks[b].Insns[i] = ir.Insn{}
		}
		g.Blocks[b] = ir.Block{}
	}
	if whole(f) != before || answers(f) != told {
		t.Error("spoiled", f)
	}
}

// spoil writes over all of a list, its spare room, too.
func spoil(l []int) {
	for i := range l[:cap(l)] {
		l[:cap(l)][i] = -77
	}
}

// P6.4: no two lists of one answer share memory.
func TestListsAreApart(t *testing.T) {
	f := made("1,2;2,3;3,1;0,1")
	for _, call := range []func(ir.Func) [][]int{Next, From} {
		want := call(f)
		for i := range want {
			got := call(f)
			spoil(got[i])
			for j := range got {
				if j != i && !slices.Equal(got[j], want[j]) {
					t.Error(i, j, got, want)
				}
			}
		}
	}
	g := Relaid(ir.Func{Blocks: slices.Repeat(roomy().Blocks[2:3], 3)})
	before := fmt.Sprint(g.Blocks[1:])
	g.Blocks[0].Insns[0].Op = 0
	g.Blocks[0].Insns[1].Args[0] = 5
	_ = append(g.Blocks[0].Insns, ir.Insn{Op: 55})
	if fmt.Sprint(g.Blocks[1:]) != before {
		t.Error("Relaid's blocks share memory")
	}
}

// P6.4: what was answered doesn't follow what is done with what was handed in.
func TestNothingIsKept(t *testing.T) {
	f := roomy()
	next, from, cuts, reached, backs, order, g := Next(f), From(f), Cuts(f), Reached(f), Backs(f), Order(f), Relaid(f)
	told := fmt.Sprint(next, from, cuts, reached, backs, order, g)
	f.Blocks[2].Insns[0].N = 8
	f.Blocks[2].Insns[1].Args[0] = 0
	for b := range f.Blocks {
		f.Blocks[b].End = ir.End{Op: ir.Return}
	}
	if fmt.Sprint(next, from, cuts, reached, backs, order, g) != told {
		t.Error("kept")
	}
}

// P1: of functions that aren't well-formed every call ends, too.
func TestAnyFunctionEnds(t *testing.T) {
	if got := answers(ir.Func{}); got != "[] [] [] [] [] [] { 0 0 []}" {
		t.Error(got)
	}
	numbers := []int{math.MinInt, -1, 0, 1, 2, 3, math.MaxInt}
	for _, op := range []int{math.MinInt, -1, 0, ir.Jump, ir.Branch, ir.Return, 4, math.MaxInt} {
		for _, to := range numbers {
			for _, other := range numbers {
				e := ir.End{Op: op, A: to, To: to, Else: other}
				f := ir.Func{Regs: -5, Blocks: []ir.Block{{End: e}, {End: ir.End{Op: ir.Jump, To: 2}}, {End: e}}}
				g := Relaid(f)
				answers(g)
				if !reflect.DeepEqual(Relaid(g), g) {
					t.Error(f, g)
				}
			}
		}
	}
}

// P1: however many blocks a function has.
func TestManyBlocksEnd(t *testing.T) {
	const n = 300000
	f := ir.Func{Blocks: make([]ir.Block, n)}
	for b := range f.Blocks {
		f.Blocks[b].End = ir.End{Op: ir.Branch, To: (b + 1) % n, Else: b / 2}
	}
	if len(Order(f)) != n || len(Reached(f)) != n || len(Backs(f)) != n+1 || len(From(f)) != n || len(Cuts(f)) != n/2 {
		t.Error(len(Order(f)), len(Reached(f)), len(Backs(f)), len(Cuts(f)))
	}
	if g := Relaid(f); !reflect.DeepEqual(g, f) {
		t.Error("Relaid")
	}
}
