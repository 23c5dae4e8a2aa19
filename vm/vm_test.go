package vm

import (
	"fmt"
	"math"
	"math/rand"
	"slices"
	"testing"

	"averment/cfg"
	"averment/code"
	"averment/fault"
	"averment/ir"
)

// edgeNumbers are numbers at which reckoning may go wrong.
var edgeNumbers = []int64{
	math.MinInt64, math.MinInt64 + 1, math.MinInt64 / 2, -1 << 32, -7, -3, -2, -1,
	0, 1, 2, 3, 7, 10, 1 << 31, 1 << 32, 1<<32 + 1, 1 << 62, math.MaxInt64 - 1, math.MaxInt64,
}

// P7.1: what two numbers come to, at the edges that the document names.
func TestArithByHand(t *testing.T) {
	for _, c := range []struct {
		op, a, b, n int64
		ok          bool
	}{
		{ir.Add, 2, 3, 5, true},
		{ir.Add, math.MaxInt64, 1, math.MinInt64, true},
		{ir.Sub, 2, 3, -1, true},
		{ir.Sub, math.MinInt64, 1, math.MaxInt64, true},
		{ir.Mul, -4, 3, -12, true},
		{ir.Mul, 1 << 32, 1 << 32, 0, true},
		{ir.Mul, math.MinInt64, -1, math.MinInt64, true},
		{ir.Div, 7, 2, 3, true},
		{ir.Div, -7, 2, -3, true},
		{ir.Div, 7, -2, -3, true},
		{ir.Div, -7, -2, 3, true},
		{ir.Div, math.MinInt64, -1, math.MinInt64, true},
		{ir.Div, 0, 5, 0, true},
		{ir.Div, 5, 0, 0, false},
		{ir.Div, 0, 0, 0, false},
		{ir.Div, math.MinInt64, 0, 0, false},
		{ir.Rem, 7, 2, 1, true},
		{ir.Rem, -7, 2, -1, true},
		{ir.Rem, 7, -2, 1, true},
		{ir.Rem, -7, -2, -1, true},
		{ir.Rem, math.MinInt64, -1, 0, true},
		{ir.Rem, 5, 0, 0, false},
		{ir.Rem, 0, 0, 0, false},
		{ir.And, 6, 3, 2, true},
		{ir.And, -1, math.MinInt64, math.MinInt64, true},
		{ir.Xor, 6, 3, 5, true},
		{ir.Xor, -1, 0, -1, true},
		{ir.Less, 1, 2, 1, true},
		{ir.Less, 2, 2, 0, true},
		{ir.Less, 3, 2, 0, true},
		{ir.Less, math.MinInt64, math.MaxInt64, 1, true},
		{ir.Less, math.MaxInt64, math.MinInt64, 0, true},
		{ir.Same, 2, 2, 1, true},
		{ir.Same, 1, 2, 0, true},
		{ir.Same, math.MinInt64, math.MaxInt64, 0, true},
		{ir.Const, 1, 2, 0, false},
		{ir.Move, 1, 2, 0, false},
		{ir.Neg, 1, 2, 0, false},
		{ir.Load, 1, 2, 0, false},
		{ir.Store, 1, 2, 0, false},
		{ir.Input, 1, 2, 0, false},
		{ir.Output, 1, 2, 0, false},
		{ir.Call, 1, 2, 0, false},
		{0, 1, 2, 0, false},
		{-4, 1, 2, 0, false},
		{18, 1, 2, 0, false},
		{256 + ir.Add, 1, 2, 0, false},
		{math.MinInt64, 1, 2, 0, false},
		{math.MaxInt64, 1, 2, 0, false},
	} {
		if n, ok := Arith(int(c.op), c.a, c.b); n != c.n || ok != c.ok {
			t.Error(c, n, ok)
		}
	}
}

// P7.1: every Op, and numbers that are none, with all pairs of numbers at the edges.
func TestArith(t *testing.T) {
	for op := -3; op <= 20; op++ {
		for _, a := range edgeNumbers {
			for _, b := range edgeNumbers {
				want, is := reckoned(op, a, b)
				if n, ok := Arith(op, a, b); n != want || ok != is {
					t.Error(op, a, b, n, ok, want, is)
				}
			}
		}
	}
}

// P7.1: the first function that is called main, if it takes nothing.
func TestEntry(t *testing.T) {
	for _, c := range []struct {
		about   string
		funcs   []ir.Func
		imports []ir.Import
		want    int
	}{
		{"nothing", nil, nil, -1},
		{"the first one", []ir.Func{{Name: "main"}}, nil, 0},
		{"a later one", []ir.Func{{Name: "a"}, {Name: "b"}, {Name: "main"}}, nil, 2},
		{"none of that name", []ir.Func{{Name: "a"}, {Name: "mai"}, {Name: "main1"}, {Name: "Main"}}, nil, -1},
		{"one that takes something", []ir.Func{{Name: "a"}, {Name: "main", Arity: 1}}, nil, -1},
		{"one that takes less than nothing", []ir.Func{{Name: "main", Arity: -1}}, nil, -1},
		{"two of them", []ir.Func{{Name: "a"}, {Name: "main"}, {Name: "main"}}, nil, 1},
		{"a second one that takes something", []ir.Func{{Name: "main"}, {Name: "main", Arity: 1}}, nil, 0},
		{"a second one, behind one that takes something", []ir.Func{{Name: "main", Arity: 2}, {Name: "main"}}, nil, -1},
		{"an import", []ir.Func{{Name: "a"}}, []ir.Import{{Name: "main"}}, -1},
		{"a function ahead of an import", []ir.Func{{Name: "main"}}, []ir.Import{{Name: "main"}}, 0},
		{"one that takes something ahead of an import", []ir.Func{{Name: "main", Arity: 1}}, []ir.Import{{Name: "main"}}, -1},
	} {
		if got := Entry(ir.Module{Funcs: c.funcs, Imports: c.imports}); got != c.want {
			t.Errorf("%s: got %d, want %d", c.about, got, c.want)
		}
	}
}

// block is one of these instructions, that returns register 0.
func block(insns ...ir.Insn) ir.Block {
	return ir.Block{Insns: insns, End: ir.End{Op: ir.Return}}
}

// pair has f 0 with two arguments, and g 1 without one.
func pair() ir.Module {
	return ir.Module{Cells: []int64{4}, Funcs: []ir.Func{
		{Name: "f", Arity: 2, Regs: 4, Blocks: []ir.Block{block(ir.Insn{Op: ir.Input, D: 3})}},
		{Name: "g", Regs: 2, Blocks: []ir.Block{block()}},
	}}
}

// P7.1: Start's errors, each with its place, and of several the first one.
func TestStartErrors(t *testing.T) {
	good, broken, open, both := pair(), pair(), pair(), pair()
	broken.Funcs[1].Blocks[0].End.A = 2
	open.Imports = []ir.Import{{Name: "h", Arity: 1}}
	both.Imports = []ir.Import{{Name: "f"}}
	one, two, three := []int64{1}, []int64{1, 2}, []int64{1, 2, 3}
	for _, c := range []struct {
		about string
		m     ir.Module
		f     int
		args  []int64
		want  string
	}{
		{"well-formed", good, 0, two, "ok"},
		{"well-formed, without arguments", good, 1, nil, "ok"},
		{"an empty list", good, 1, []int64{}, "ok"},
		{"not well-formed", broken, 0, two, "1.0.0 register"},
		{"a cell too many", ir.Module{Cells: make([]int64, 17)}, 0, nil, "size"},
		{"no such instruction", ir.Module{Funcs: []ir.Func{{Name: "f", Regs: 1, Blocks: []ir.Block{block(ir.Insn{})}}}}, 0, nil, "0.0.0 tag"},
		{"with an import", open, 0, two, "open"},
		{"of an import", open, 2, one, "open"},
		{"one too great", good, 2, nil, "symbol"},
		{"below 0", good, -1, nil, "symbol"},
		{"far off", good, math.MaxInt, nil, "symbol"},
		{"far off below 0", good, math.MinInt, nil, "symbol"},
		{"no function at all", ir.Module{}, 0, nil, "symbol"},
		{"what Entry says of none", good, Entry(good), nil, "symbol"},
		{"too few", good, 0, one, "arity"},
		{"none", good, 0, nil, "arity"},
		{"too many", good, 0, three, "arity"},
		{"some for none", good, 1, one, "arity"},
		{"not well-formed, and an import", both, 0, two, "2 symbol"},
		{"not well-formed, and no such function", broken, 2, nil, "1.0.0 register"},
		{"not well-formed, and too few", broken, 0, nil, "1.0.0 register"},
		{"an import, and no such function", open, 3, nil, "open"},
		{"an import, and below 0", open, -1, nil, "open"},
		{"an import, and too few", open, 0, one, "open"},
		{"an import, and too many for it", open, 2, three, "open"},
		{"no such function, and args", good, 2, three, "symbol"},
	} {
		v, e := Start(c.m, c.f, c.args, nil)
		if got := fault.Text(e); got != c.want || (v == nil) != (e != nil) || (e == nil) != (c.want == "ok") {
			t.Errorf("%s: got %q, %v, want %q", c.about, got, v, c.want)
		}
	}
}

// want holds all that is to be seen of a Machine against what is asked for.
func want(t *testing.T, what string, v *Machine, asked string) {
	t.Helper()
	if got := seen(v); got != asked {
		t.Errorf("%s:\ngot  %s\nwant %s", what, got, asked)
	}
}

// P7.1: how a Machine begins. Shown are How, Result, Out, Left, Cells, Frames.
func TestStart(t *testing.T) {
	v := run{pair(), 0, []int64{8, -9}, []int64{5, 6}}.start(t)
	want(t, "f", v, "0 0 false [] [5 6] [4] [{0 0 0 [8 -9 0 0] [0 1 2 3]}]")
	v = run{pair(), 1, nil, nil}.start(t)
	want(t, "g", v, "0 0 false [] [] [4] [{1 0 0 [0 0] [5 6]}]")
}

// P7.1: the document's example.
func TestExample(t *testing.T) {
	m := ir.Module{Funcs: []ir.Func{{Name: "main", Regs: 2, Blocks: []ir.Block{{
		Insns: []ir.Insn{{Op: ir.Const, D: 1, N: 5}, {Op: ir.Output, A: 1}},
		End:   ir.End{Op: ir.Return, A: 1},
	}}}}}
	v := run{m, Entry(m), nil, nil}.start(t)
	want(t, "ahead", v, "0 0 false [] [] [] [{0 0 0 [0 0] [0 1]}]")
	for i, after := range []string{
		"0 0 false [] [] [] [{0 0 1 [0 5] [0 2]}]",
		"0 0 false [5] [] [] [{0 0 2 [0 5] [0 2]}]",
		"1 5 true [5] [] [] []",
	} {
		if !v.Step() {
			t.Error("nothing was done", i)
		}
		want(t, fmt.Sprint("step ", i), v, after)
	}
	if v.Step() {
		t.Error("a step of what is Done")
	}
	want(t, "behind", v, "1 5 true [5] [] [] []")
}

// P7.1: each kind of instruction, what it sets, and where its register got its number then.
func TestEachInstruction(t *testing.T) {
	for _, c := range []struct {
		x     ir.Insn
		after string
	}{
		{ir.Insn{Op: ir.Const, D: 3, N: -8}, "[] [5 6] [4 9] [{0 0 2 [7 2 0 -8] [0 1 4 5]}]"},
		{ir.Insn{Op: ir.Move, D: 3, A: 1}, "[] [5 6] [4 9] [{0 0 2 [7 2 0 2] [0 1 4 5]}]"},
		{ir.Insn{Op: ir.Move, D: 1, A: 1}, "[] [5 6] [4 9] [{0 0 2 [7 2 0 0] [0 5 4 3]}]"},
		{ir.Insn{Op: ir.Neg, D: 3, A: 1}, "[] [5 6] [4 9] [{0 0 2 [7 2 0 -2] [0 1 4 5]}]"},
		{ir.Insn{Op: ir.Add, D: 3, A: 0, B: 1}, "[] [5 6] [4 9] [{0 0 2 [7 2 0 9] [0 1 4 5]}]"},
		{ir.Insn{Op: ir.Sub, D: 3, A: 0, B: 1}, "[] [5 6] [4 9] [{0 0 2 [7 2 0 5] [0 1 4 5]}]"},
		{ir.Insn{Op: ir.Mul, D: 3, A: 0, B: 1}, "[] [5 6] [4 9] [{0 0 2 [7 2 0 14] [0 1 4 5]}]"},
		{ir.Insn{Op: ir.Div, D: 3, A: 0, B: 1}, "[] [5 6] [4 9] [{0 0 2 [7 2 0 3] [0 1 4 5]}]"},
		{ir.Insn{Op: ir.Rem, D: 3, A: 0, B: 1}, "[] [5 6] [4 9] [{0 0 2 [7 2 0 1] [0 1 4 5]}]"},
		{ir.Insn{Op: ir.And, D: 3, A: 0, B: 1}, "[] [5 6] [4 9] [{0 0 2 [7 2 0 2] [0 1 4 5]}]"},
		{ir.Insn{Op: ir.Xor, D: 3, A: 0, B: 1}, "[] [5 6] [4 9] [{0 0 2 [7 2 0 5] [0 1 4 5]}]"},
		{ir.Insn{Op: ir.Less, D: 3, A: 1, B: 0}, "[] [5 6] [4 9] [{0 0 2 [7 2 0 1] [0 1 4 5]}]"},
		{ir.Insn{Op: ir.Same, D: 0, A: 0, B: 1}, "[] [5 6] [4 9] [{0 0 2 [0 2 0 0] [5 1 4 3]}]"},
		{ir.Insn{Op: ir.Load, D: 2, B: 1}, "[] [5 6] [4 9] [{0 0 2 [7 2 9 0] [0 1 5 3]}]"},
		{ir.Insn{Op: ir.Store, A: 1, B: 1}, "[] [5 6] [4 2] [{0 0 2 [7 2 0 0] [0 1 4 3]}]"},
		{ir.Insn{Op: ir.Input, D: 2}, "[] [6] [4 9] [{0 0 2 [7 2 5 0] [0 1 5 3]}]"},
		{ir.Insn{Op: ir.Output, A: 1}, "[2] [5 6] [4 9] [{0 0 2 [7 2 0 0] [0 1 4 3]}]"},
		{ir.Insn{Op: ir.Call, D: 3, B: 0, Args: []int{1, 0}}, "[] [5 6] [4 9] [{0 0 1 [7 2 0 0] [0 1 4 3]} {0 0 0 [2 7 0 0] [0 1 2 3]}]"},
	} {
		// The one ahead sets register 2 to what it is, at site 4.
		m := ir.Module{Cells: []int64{4, 9}, Funcs: []ir.Func{{Name: "f", Arity: 2, Regs: 4, Blocks: []ir.Block{
			block(ir.Insn{Op: ir.Move, D: 2, A: 2}, c.x),
		}}}}
		v := run{m, 0, []int64{7, 2}, []int64{5, 6}}.start(t)
		if v.Run(2) != 2 {
			t.Error(c.x, "nothing was done")
		}
		want(t, fmt.Sprint(c.x), v, "0 0 false "+c.after)
	}
}

// P7.1: Ends: where they go on.
func TestEnds(t *testing.T) {
	m := ir.Module{Funcs: []ir.Func{{Name: "f", Arity: 1, Regs: 2, Blocks: []ir.Block{
		{End: ir.End{Op: ir.Jump, To: 1}},
		{Insns: []ir.Insn{{Op: ir.Const, D: 1, N: 3}}, End: ir.End{Op: ir.Branch, A: 0, To: 2, Else: 1}},
		{End: ir.End{Op: ir.Branch, A: 1, To: 3, Else: 0}},
		{End: ir.End{Op: ir.Return, A: 1}},
	}}}}
	v := run{m, 0, []int64{math.MinInt64}, nil}.start(t)
	for i, after := range []string{
		"0 0 false [] [] [] [{0 1 0 [-9223372036854775808 0] [0 1]}]",
		"0 0 false [] [] [] [{0 1 1 [-9223372036854775808 3] [0 2]}]",
		"0 0 false [] [] [] [{0 2 0 [-9223372036854775808 3] [0 2]}]",
		"0 0 false [] [] [] [{0 3 0 [-9223372036854775808 3] [0 2]}]",
		"1 3 true [] [] [] []",
	} {
		if !v.Step() {
			t.Error("nothing was done", i)
		}
		want(t, fmt.Sprint("step ", i), v, after)
	}
	v = run{m, 0, []int64{0}, nil}.start(t)
	if n := v.Run(3); n != 3 {
		t.Error(n)
	}
	want(t, "Else, which is the block itself", v, "0 0 false [] [] [] [{0 1 0 [0 3] [0 2]}]")
	if n := v.Run(1001); n != 1001 {
		t.Error(n)
	}
	want(t, "round and round", v, "0 0 false [] [] [] [{0 1 1 [0 3] [0 2]}]")
}

// calls has main 0, which calls twice 1 with two of its registers, and last 2, which is never done.
func calls() ir.Module {
	return ir.Module{Funcs: []ir.Func{
		{Name: "main", Regs: 3, Blocks: []ir.Block{{
			Insns: []ir.Insn{
				{Op: ir.Const, D: 0, N: 20},
				{Op: ir.Const, D: 2, N: 3},
				{Op: ir.Output, A: 2},
				{Op: ir.Call, D: 2, B: 1, Args: []int{2, 0}},
				{Op: ir.Move, D: 1, A: 2},
			},
			End: ir.End{Op: ir.Return, A: 1},
		}}},
		{Name: "twice", Arity: 2, Regs: 3, Blocks: []ir.Block{{
			Insns: []ir.Insn{{Op: ir.Sub, D: 1, A: 1, B: 0}},
			End:   ir.End{Op: ir.Return, A: 1},
		}}},
		{Name: "last", Regs: 1, Blocks: []ir.Block{block()}},
	}}
}

// P7.1: a Call and its Return: frames, and where D got its number.
func TestCallAndReturn(t *testing.T) {
	v := run{calls(), 0, nil, nil}.start(t)
	for i, after := range []string{
		"0 0 false [] [] [] [{0 0 1 [20 0 0] [3 1 2]}]",
		"0 0 false [] [] [] [{0 0 2 [20 0 3] [3 1 4]}]",
		"0 0 false [3] [] [] [{0 0 3 [20 0 3] [3 1 4]}]",
		"0 0 false [3] [] [] [{0 0 3 [20 0 3] [3 1 4]} {1 0 0 [3 20 0] [7 8 9]}]",
		"0 0 false [3] [] [] [{0 0 3 [20 0 3] [3 1 4]} {1 0 1 [3 17 0] [7 10 9]}]",
		"0 0 false [3] [] [] [{0 0 4 [20 0 17] [3 1 5]}]",
		"0 0 false [3] [] [] [{0 0 5 [20 17 17] [3 6 5]}]",
		"1 17 true [3] [] [] []",
	} {
		if !v.Step() {
			t.Error("nothing was done", i)
		}
		want(t, fmt.Sprint("step ", i), v, after)
	}
}

// deep is a function that calls itself as often as its argument says, and returns how often it did.
func deep() ir.Module {
	return ir.Module{Funcs: []ir.Func{{Name: "deep", Arity: 1, Regs: 3, Blocks: []ir.Block{
		{End: ir.End{Op: ir.Branch, A: 0, To: 1, Else: 2}},
		{Insns: []ir.Insn{
			{Op: ir.Const, D: 2, N: 1},
			{Op: ir.Sub, D: 0, A: 0, B: 2},
			{Op: ir.Call, D: 1, B: 0, Args: []int{0}},
			{Op: ir.Add, D: 1, A: 1, B: 2},
		}, End: ir.End{Op: ir.Jump, To: 2}},
		{End: ir.End{Op: ir.Return, A: 1}},
	}}}}
}

// P7.1: a Call at 63 frames is done, one at 64 traps.
func TestDeepCalls(t *testing.T) {
	v := run{deep(), 0, []int64{63}, nil}.start(t)
	most := len(v.Frames())
	for v.Step() {
		most = max(most, len(v.Frames()))
	}
	if n, ok := v.Result(); n != 63 || !ok || most != 64 {
		t.Error(n, ok, most, v.How())
	}
	v = run{deep(), 0, []int64{64}, nil}.start(t)
	if n := v.Run(10000); n != 63*4+3 || v.How() != Trapped || len(v.Frames()) != 64 {
		t.Error(n, v.How(), len(v.Frames()))
	}
	frames := v.Frames()
	if got := fmt.Sprint(frames[63], frames[62]); got != "{0 1 2 [0 0 1] [4 1 3]} {0 1 2 [1 0 1] [4 1 3]}" {
		t.Error(got)
	}
	if v.Step() || v.Run(5) != 0 || v.How() != Trapped || len(v.Frames()) != 64 {
		t.Error("it went on")
	}
}

// P7.1: traps: nothing is done, and nothing ever after.
func TestTraps(t *testing.T) {
	for _, x := range []ir.Insn{
		{Op: ir.Div, D: 0, A: 0, B: 1},
		{Op: ir.Rem, D: 0, A: 0, B: 1},
		{Op: ir.Div, D: 1, A: 1, B: 1},
		{Op: ir.Rem, D: 1, A: 1, B: 1},
		{Op: ir.Input, D: 1},
	} {
		m := ir.Module{Cells: []int64{4}, Funcs: []ir.Func{{Name: "f", Arity: 1, Regs: 2, Blocks: []ir.Block{
			block(ir.Insn{Op: ir.Output}, ir.Insn{Op: ir.Store}, x, ir.Insn{Op: ir.Output}),
		}}}}
		in := []int64{7}
		if x.Op == ir.Input {
			in = nil
		}
		v := run{m, 0, []int64{5}, in}.start(t)
		if n := v.Run(2); n != 2 || v.How() != Running {
			t.Error(x, n)
		}
		rest := fmt.Sprint(" 0 false [5] ", in, " [5] [{0 0 2 [5 0] [0 1]}]")
		want(t, "ahead of it", v, "0"+rest)
		if v.Step() {
			t.Error(x, "something was done")
		}
		want(t, "behind it", v, "2"+rest)
		if v.Step() || v.Run(100) != 0 || v.Poke(1, 1) {
			t.Error(x, "it went on")
		}
		want(t, "ever after", v, "2"+rest)
	}
}

// P7.1: a trap within a call leaves all frames as they are.
func TestTrapWithinACall(t *testing.T) {
	m := calls()
	m.Funcs[1].Blocks[0].Insns = []ir.Insn{{Op: ir.Move, D: 2, A: 0}, {Op: ir.Input, D: 2}}
	v := run{m, 0, nil, nil}.start(t)
	if n := v.Run(100); n != 5 {
		t.Error(n)
	}
	want(t, "trapped", v, "2 0 false [3] [] [] [{0 0 3 [20 0 3] [3 1 4]} {1 0 1 [3 20 3] [7 8 10]}]")
}

// P7.1: Input takes what comes in, one by one, and traps when nothing is left.
func TestInput(t *testing.T) {
	m := ir.Module{Funcs: []ir.Func{{Name: "f", Regs: 1, Blocks: []ir.Block{
		{Insns: []ir.Insn{{Op: ir.Input}, {Op: ir.Output}}, End: ir.End{Op: ir.Jump}},
	}}}}
	v := run{m, 0, nil, []int64{0, -2, math.MaxInt64}}.start(t)
	for i, left := range []string{"[-2 9223372036854775807]", "[9223372036854775807]", "[]"} {
		if v.Run(3) != 3 || fmt.Sprint(v.Left()) != left {
			t.Error(i, v.Left())
		}
	}
	if v.How() != Running || v.Run(3) != 0 || v.How() != Trapped || fmt.Sprint(v.Out()) != "[0 -2 9223372036854775807]" {
		t.Error(v.How(), v.Out())
	}
}

// P7.1: Run: how many steps were done, with any fuel.
func TestRun(t *testing.T) {
	for _, c := range []struct{ fuel, done, how int }{
		{math.MinInt, 0, Running}, {-1, 0, Running}, {0, 0, Running},
		{1, 1, Running}, {7, 7, Running}, {8, 8, Done}, {9, 8, Done}, {math.MaxInt, 8, Done},
	} {
		v := run{calls(), 0, nil, nil}.start(t)
		if n := v.Run(c.fuel); n != c.done || v.How() != c.how {
			t.Error(c, n, v.How())
		}
		if n := v.Run(0) + v.Run(-1); n != 0 || v.How() != c.how {
			t.Error(c, "no fuel", n)
		}
		if n := v.Run(100); n != 8-c.done || v.How() != Done || v.Run(100) != 0 || v.Step() {
			t.Error(c, "the rest", n, v.How())
		}
	}
}

// P7.1: Poke: the innermost frame's registers alone, and their numbers alone.
func TestPoke(t *testing.T) {
	v := run{calls(), 0, nil, nil}.start(t)
	v.Run(4)
	for _, r := range []int{math.MinInt, -1, 3, 7, 8, math.MaxInt} {
		if v.Poke(r, 6) {
			t.Error("no such register", r)
		}
	}
	want(t, "as it was", v, "0 0 false [3] [] [] [{0 0 3 [20 0 3] [3 1 4]} {1 0 0 [3 20 0] [7 8 9]}]")
	if !v.Poke(0, math.MinInt64) || !v.Poke(1, 5) || !v.Poke(2, -1) {
		t.Error("not poked")
	}
	want(t, "poked", v, "0 0 false [3] [] [] [{0 0 3 [20 0 3] [3 1 4]} {1 0 0 [-9223372036854775808 5 -1] [7 8 9]}]")
	v.Run(2)
	if !v.Poke(2, 9) {
		t.Error("not poked")
	}
	want(t, "behind the Return", v, "0 0 false [3] [] [] [{0 0 4 [20 0 9] [3 1 5]}]")
	v.Run(2)
	if v.Poke(0, 1) {
		t.Error("poked, though it is Done")
	}
	want(t, "Done", v, "1 9 true [3] [] [] []")
}

// P7.1: how many registers there are to poke hangs on the function that is innermost.
func TestPokeOfAnotherFunction(t *testing.T) {
	m := calls()
	m.Funcs[1].Regs = 5
	v := run{m, 0, nil, nil}.start(t)
	if v.Poke(3, 1) {
		t.Error("main has no register 3")
	}
	v.Run(4)
	if !v.Poke(4, 1) || v.Poke(5, 1) {
		t.Error("twice has 5 registers")
	}
}

// P7.1: a copy stands alike, and goes its own way, at every step and on both sides.
func TestCopy(t *testing.T) {
	source := rand.New(rand.NewSource(71))
	for range 300 {
		r := someRun(t, source)
		v := r.start(t)
		v.Run(source.Intn(40))
		here := seen(v)
		c := v.Copy()
		want(t, "the copy", c, here)
		v.Poke(0, 77)
		v.Run(20)
		want(t, "the copy, as the first one went on", c, here)
		there := seen(v)
		c.Poke(0, -77)
		c.Run(30)
		want(t, "the first one, as the copy went on", v, there)
		d := c.Copy()
		if n := c.Run(50); n != d.Run(50) || seen(c) != seen(d) {
			t.Error("two that stood alike")
		}
	}
}

// P7.1: copies of what is Done and of what is Trapped.
func TestCopyOfWhatEnded(t *testing.T) {
	v := run{calls(), 0, nil, nil}.start(t)
	v.Run(100)
	want(t, "Done", v.Copy(), "1 17 true [3] [] [] []")
	v = run{pair(), 0, []int64{1, 2}, nil}.start(t)
	v.Run(100)
	want(t, "Trapped", v.Copy(), "2 0 false [] [] [4] [{0 0 0 [1 2 0 0] [0 1 2 3]}]")
	if v.Copy().Step() {
		t.Error("it went on")
	}
}

// P7.1: a copy that comes in where the first one stands takes and writes for itself alone.
func TestCopyOfListsWithRoom(t *testing.T) {
	m := ir.Module{Cells: []int64{0}, Funcs: []ir.Func{{Name: "f", Regs: 1, Blocks: []ir.Block{
		{Insns: []ir.Insn{{Op: ir.Output}, {Op: ir.Store}}, End: ir.End{Op: ir.Jump}},
	}}}}
	for steps := range 40 {
		v := run{m, 0, nil, nil}.start(t)
		v.Run(steps)
		c := v.Copy()
		v.Poke(0, 1)
		c.Poke(0, 2)
		v.Run(3)
		c.Run(3)
		a, b := v.Out(), c.Out()
		if a[len(a)-1] != 1 || b[len(b)-1] != 2 || v.Cells()[0] != 1 || c.Cells()[0] != 2 {
			t.Error(steps, a, b, v.Cells(), c.Cells())
		}
	}
}

// P7.1: a nil Machine in each call; one that Start didn't make ends all calls, too.
func TestNoMachine(t *testing.T) {
	var none *Machine
	for _, v := range []*Machine{none, none.Copy(), {}, (&Machine{}).Copy()} {
		n, ok := v.Result()
		if v.Step() || v.Run(5) != 0 || v.Run(-5) != 0 || v.How() != Trapped || n != 0 || ok || v.Poke(0, 1) {
			t.Error("a step, or a number")
		}
		if v.Out() != nil || v.Left() != nil || v.Cells() != nil || v.Frames() != nil {
			t.Error("lists")
		}
	}
	if none.Copy() != nil {
		t.Error("a copy of nil")
	}
}

// P7.1: modules by chance do, step by step, what the document's words say.
func TestAsTheWordsSay(t *testing.T) {
	source := rand.New(rand.NewSource(7))
	ends := map[int]int{}
	for range 1500 {
		r := someRun(t, source)
		v, x := r.start(t), modelOf(r.m, r.f, r.args, r.in)
		for range 80 {
			want(t, "a step", v, x.text())
			if x.step() != v.Step() {
				t.Fatal("was something done?", r)
			}
			if t.Failed() {
				t.Fatal(r)
			}
		}
		want(t, "the end", v, x.text())
		ends[v.How()]++
	}
	if ends[Running] < 100 || ends[Done] < 100 || ends[Trapped] < 100 {
		t.Error("too few of one end", ends)
	}
}

// P7.1: a module at the limits, whose sites are many.
func TestLargest(t *testing.T) {
	var m ir.Module
	for f := range 24 {
		fn := ir.Func{Name: fmt.Sprint("f", f), Arity: 4, Regs: 8}
		for b := range 12 {
			insns := slices.Repeat([]ir.Insn{{Op: ir.Add, D: 7, A: 0, B: 1}}, 12)
			insns[b] = ir.Insn{Op: ir.Output, A: 7}
			insns[11-b/2] = ir.Insn{Op: ir.Const, D: b % 8, N: int64(f * b)}
			fn.Blocks = append(fn.Blocks, ir.Block{Insns: insns, End: ir.End{Op: ir.Jump, To: (b + 5) % 12}})
		}
		fn.Blocks[7].Insns[3] = ir.Insn{Op: ir.Call, D: 6, B: (f + 7) % 24, Args: []int{7, 6, 5, 4}}
		m.Funcs = append(m.Funcs, fn)
	}
	m.Cells = make([]int64, 16)
	r := run{m, 23, []int64{1, 2, 3, 4}, nil}
	v, x := r.start(t), modelOf(m, 23, r.args, nil)
	for x.step() {
		if !v.Step() {
			t.Fatal("nothing was done")
		}
		want(t, "a step", v, x.text())
		if t.Failed() {
			return
		}
	}
	if v.Step() || v.How() != Trapped || len(v.Frames()) != 64 {
		t.Error(v.How())
	}
}

// P7.2: what is done hangs on the module, the arguments and what comes in alone.
func TestTwoRuns(t *testing.T) {
	source := rand.New(rand.NewSource(72))
	for range 200 {
		r := someRun(t, source)
		v, w := r.start(t), r.start(t)
		for range 60 {
			v.Step()
		}
		if n := w.Run(23); n == 23 {
			w.Run(37)
		}
		want(t, "by Run", w, seen(v))
	}
}

// P7.2: with more to come in a run goes on as it did, until more is taken.
func TestMoreComesIn(t *testing.T) {
	source := rand.New(rand.NewSource(73))
	taken := 0
	for range 1000 {
		r := someRun(t, source)
		longer := r
		longer.in = append(slices.Clone(r.in), someNumbers(source, 1+source.Intn(3))...)
		v, w := r.start(t), longer.start(t)
		for range 80 {
			if !v.Step() {
				break
			}
			w.Step()
			if got := seen(w); got != withLeft(v, append(v.Left(), longer.in[len(r.in):]...)) {
				t.Fatal(r, got, seen(v))
			}
		}
		if v.How() == Trapped && atInput(v) {
			taken++
			if !w.Step() || len(w.Left()) != len(longer.in)-len(r.in)-1 {
				t.Error("more isn't taken", r)
			}
		} else if v.How() != Running {
			w.Step()
			if w.How() != v.How() {
				t.Error("another end", r)
			}
		}
	}
	if taken < 50 {
		t.Error(taken)
	}
}

// withLeft is seen of v, if that were left to come in.
func withLeft(v *Machine, left []int64) string {
	n, ok := v.Result()
	return fmt.Sprint(v.How(), n, ok, v.Out(), left, v.Cells(), v.Frames())
}

// atInput tells whether the next instruction is an Input.
func atInput(v *Machine) bool {
	fr := v.innermost()
	return v.code.m.Funcs[fr.fn].Blocks[fr.block].Insns[fr.insn].Op == ir.Input
}

// P2: a module that is written as bytes and read does the same.
func TestWrittenAndRead(t *testing.T) {
	source := rand.New(rand.NewSource(2))
	for range 300 {
		r := someRun(t, source)
		b, e := code.Write(r.m)
		if e != nil {
			t.Fatal(e)
		}
		again := r
		if again.m, e = code.Read(b); e != nil {
			t.Fatal(e)
		}
		v, w := r.start(t), again.start(t)
		for range 100 {
			if v.Step() != w.Step() {
				t.Fatal(r)
			}
			want(t, "read again", w, seen(v))
		}
	}
}

// P2: a module whose functions are laid in another order does the same, at the same instructions.
func TestRelaid(t *testing.T) {
	source := rand.New(rand.NewSource(22))
	moved := 0
	for range 500 {
		r := someRun(t, source)
		other := r
		other.m = ir.Copy(r.m)
		for f := range other.m.Funcs {
			other.m.Funcs[f] = cfg.Relaid(other.m.Funcs[f])
		}
		if !ir.Equal(r.m, other.m) {
			moved++
		}
		v, w := r.start(t), other.start(t)
		for range 100 {
			if v.Step() != w.Step() {
				t.Fatal(r)
			}
			n, ok := v.Result()
			back := fmt.Sprint(v.How(), n, ok, v.Out(), v.Left(), v.Cells(), relaidFrames(r.m, other.m, v.Frames()))
			want(t, "laid in another order", w, back)
		}
	}
	if moved < 100 {
		t.Error(moved)
	}
}

// relaidFrames are the frames of a run of m, by the numbers of blocks and sites of the module all of whose functions were Relaid.
func relaidFrames(m, laid ir.Module, frames []Frame) []Frame {
	for i, fr := range frames {
		frames[i].Block = newBlock(m.Funcs[fr.Func], fr.Block)
		for r, site := range fr.Last {
			f, b, at := ir.Where(m, site)
			if b < 0 {
				frames[i].Last[r] = ir.First(laid, f) + at
				continue
			}
			frames[i].Last[r] = ir.Site(laid, f, newBlock(m.Funcs[f], b), at)
		}
	}
	return frames
}

// newBlock is the number that a block has in f, Relaid, if it is one to which block 0 leads.
func newBlock(f ir.Func, b int) int { return slices.Index(cfg.Order(f), b) }

// everyInsn has all kinds of instructions, and lists with room to spare.
func everyInsn() run {
	m := calls()
	m.Cells = append(make([]int64, 0, 4), 3, 4)
	m.Cells[:4][3] = 99
	m.Funcs[0].Blocks[0].Insns = append(m.Funcs[0].Blocks[0].Insns,
		ir.Insn{Op: ir.Load, D: 1, B: 1}, ir.Insn{Op: ir.Add, D: 1, A: 1, B: 1}, ir.Insn{Op: ir.Store, A: 1, B: 0},
		ir.Insn{Op: ir.Input, D: 0}, ir.Insn{Op: ir.Output, A: 0}, ir.Insn{Op: ir.Input, D: 2})
	m.Funcs[0].Arity = 1
	args, in := append(make([]int64, 0, 3), 6), append(make([]int64, 0, 4), 7, 8, 9)
	args[:3][2], in[:4][3] = 99, 99
	return run{m, 0, args, in}
}

// given is all that a run was begun with, the spare room, too.
func given(r run) string {
	return fmt.Sprint(r.m, r.m.Cells[:cap(r.m.Cells)], r.args[:cap(r.args)], r.in[:cap(r.in)])
}

// P7.3: nothing that is handed in is changed.
func TestNothingIsChanged(t *testing.T) {
	r := everyInsn()
	before := given(r)
	v := r.start(t)
	Entry(r.m)
	v.Poke(0, 55)
	if n := v.Run(100); n != 14 || v.How() != Done {
		t.Error(n, v.How())
	}
	if given(r) != before {
		t.Error("changed", given(r), before)
	}
}

// P7.3: nothing that is handed in is kept.
func TestNothingIsKept(t *testing.T) {
	for steps := range 15 {
		r, plain := everyInsn(), everyInsn().start(t)
		v := r.start(t)
		v.Run(steps)
		clear(r.args[:cap(r.args)])
		clear(r.in[:cap(r.in)])
		clear(r.m.Cells[:cap(r.m.Cells)])
		for f := range r.m.Funcs {
			for b := range r.m.Funcs[f].Blocks {
				insns := r.m.Funcs[f].Blocks[b].Insns
				for i := range insns {
					clear(insns[i].Args)
				}
				clear(insns[:cap(insns)])
			}
			clear(r.m.Funcs[f].Blocks)
		}
		clear(r.m.Funcs)
		v.Run(100)
		plain.Run(100)
		want(t, fmt.Sprint("behind step ", steps), v, seen(plain))
	}
}

// P7.3: answers are new memory: who spoils one spoils nothing else.
func TestAnswersAreNewMemory(t *testing.T) {
	source := rand.New(rand.NewSource(74))
	for range 300 {
		r := someRun(t, source)
		v := r.start(t)
		v.Run(source.Intn(60))
		before := seen(v)
		for _, l := range [][]int64{v.Out(), v.Left(), v.Cells()} {
			spoil(l)
		}
		frames := v.Frames()
		for i, fr := range frames {
			spoil(fr.Regs)
			clear(fr.Last[:cap(fr.Last)])
			frames[i] = Frame{}
		}
		want(t, "spoiled", v, before)
		out, left, cells, all := v.Out(), v.Left(), v.Cells(), v.Frames()
		told := fmt.Sprint(out, left, cells, all)
		v.Poke(0, 123)
		v.Run(60)
		if fmt.Sprint(out, left, cells, all) != told {
			t.Error("answers follow the Machine")
		}
	}
}

// spoil writes over all of a list, its spare room, too.
func spoil(l []int64) {
	for i := range l[:cap(l)] {
		l[:cap(l)][i] = -77
	}
}

// P7.3: no two lists of one answer share memory.
func TestFramesAreApart(t *testing.T) {
	v := run{deep(), 0, []int64{20}, nil}.start(t)
	v.Run(40)
	told := v.Frames()
	for i := range told {
		got := v.Frames()
		spoil(got[i].Regs)
		clear(got[i].Last[:cap(got[i].Last)])
		got[i] = told[i]
		if fmt.Sprint(got) != fmt.Sprint(told) {
			t.Error(i, got)
		}
	}
}

// P1: whatever the module is, all calls end.
func TestAnyModuleEnds(t *testing.T) {
	source := rand.New(rand.NewSource(1))
	begun := 0
	for range 3000 {
		r := someRun(t, source)
		for range 1 + source.Intn(2) {
			spoilRun(source, &r)
		}
		Entry(r.m)
		v, e := Start(r.m, r.f, r.args, r.in)
		if (v == nil) == (e == nil) {
			t.Error(r, v, e)
		}
		if v != nil {
			begun++
		}
		v.Run(50)
		v.Poke(source.Intn(12)-2, 5)
		v.Copy().Run(50)
		seen(v)
	}
	if begun < 100 || begun > 2900 {
		t.Error(begun)
	}
}

// spoilRun changes one thing of a run, most often so that it is wrong then.
func spoilRun(source *rand.Rand, r *run) {
	wrong := []int{math.MinInt, -1, 0, 1, 2, 3, 8, 18, math.MaxInt}
	n := wrong[source.Intn(len(wrong))]
	f := &r.m.Funcs[source.Intn(len(r.m.Funcs))]
	if len(f.Blocks) == 0 {
		return
	}
	b := &f.Blocks[source.Intn(len(f.Blocks))]
	x := &ir.Insn{}
	if len(b.Insns) > 0 {
		x = &b.Insns[source.Intn(len(b.Insns))]
	}
	fields := []*int{&r.f, &f.Arity, &f.Regs, &b.End.Op, &b.End.A, &b.End.To, &b.End.Else, &x.Op, &x.D, &x.A, &x.B}
	switch k := source.Intn(len(fields) + 5); {
	case k < len(fields):
		*fields[k] = n
	case k == len(fields):
		x.Args = append(x.Args, n)
	case k == len(fields)+1:
		f.Blocks = nil
	case k == len(fields)+2:
		r.m.Cells = nil
	case k == len(fields)+3:
		r.args = append(r.args, 1)
	default:
		r.m.Imports = append(r.m.Imports, ir.Import{Name: "main"})
	}
}
