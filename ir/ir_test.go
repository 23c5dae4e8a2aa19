package ir

import (
	"fmt"
	"math"
	"math/rand"
	"reflect"
	"slices"
	"strings"
	"testing"

	"averment/fault"
)

// fieldsOf is the document's table of what each Op uses, word for word.
var fieldsOf = map[int]string{
	Const: "D N", Move: "D A", Neg: "D A",
	Add: "D A B", Sub: "D A B", Mul: "D A B", Div: "D A B", Rem: "D A B", And: "D A B", Xor: "D A B",
	Less: "D A B", Same: "D A B",
	Load: "D B", Store: "A B", Input: "D", Output: "A", Call: "D B Args",
}

// endFieldsOf is the same of Ends.
var endFieldsOf = map[int]string{Jump: "To", Branch: "A To Else", Return: "A"}

func uses(op int, field string) bool {
	return slices.Contains(strings.Fields(fieldsOf[op]), field)
}

func endUses(op int, field string) bool {
	return slices.Contains(strings.Fields(endFieldsOf[op]), field)
}

// full has each Op and each End; its functions are main 0, twice 1, the imports ask 2, zap 3.
func full() Module {
	return Module{
		Cells: []int64{7, -1},
		Funcs: []Func{
			{Name: "main", Arity: 0, Regs: 3, Blocks: []Block{
				{Insns: []Insn{
					{Op: Const, D: 1, N: -5},
					{Op: Move, D: 2, A: 1},
					{Op: Neg, D: 2, A: 2},
					{Op: Add, D: 0, A: 1, B: 2},
					{Op: Sub, D: 0, A: 1, B: 2},
					{Op: Mul, D: 0, A: 1, B: 2},
					{Op: Div, D: 0, A: 1, B: 2},
					{Op: Rem, D: 0, A: 1, B: 2},
					{Op: And, D: 0, A: 1, B: 2},
					{Op: Xor, D: 0, A: 1, B: 2},
					{Op: Less, D: 0, A: 1, B: 2},
					{Op: Same, D: 0, A: 1, B: 2},
				}, End: End{Op: Branch, A: 1, To: 2, Else: 1}},
				{Insns: []Insn{
					{Op: Load, D: 1, B: 1},
					{Op: Store, A: 2, B: 1},
					{Op: Input, D: 2},
					{Op: Output, A: 2},
					{Op: Call, D: 1, B: 1, Args: []int{2, 1}},
					{Op: Call, D: 1, B: 2},
					{Op: Call, D: 2, B: 3, Args: []int{0, 0, 2, 1}},
				}, End: End{Op: Jump, To: 2}},
				{End: End{Op: Return, A: 2}},
			}},
			{Name: "twice", Arity: 2, Regs: 2, Blocks: []Block{
				{Insns: []Insn{{Op: Output, A: 1}, {Op: Add, D: 1, A: 0, B: 0}}, End: End{Op: Return, A: 1}},
			}},
		},
		Imports: []Import{{Name: "ask", Arity: 0}, {Name: "zap", Arity: 4}},
	}
}

// small has one function of one block with those instructions and two registers, two cells, and an import of one argument.
func small(insns ...Insn) Module {
	return Module{
		Cells:   []int64{0, 0},
		Funcs:   []Func{{Name: "f", Arity: 1, Regs: 2, Blocks: []Block{{Insns: insns, End: End{Op: Return}}}}},
		Imports: []Import{{Name: "g", Arity: 1}},
	}
}

func wantText(t *testing.T, what string, e error, want string) {
	t.Helper()
	if got := fault.Text(e); got != want {
		t.Errorf("%s: got %q, want %q", what, got, want)
	}
	if (e == nil) != (want == "ok") {
		t.Errorf("%s: nil: %v, want %q", what, e == nil, want)
	}
}

// P4.1: modules that are well-formed, at all limits.
func TestCheckWellFormed(t *testing.T) {
	wantText(t, "nothing", Check(Module{}), "ok")
	wantText(t, "empty lists", Check(Module{Cells: []int64{}, Funcs: []Func{}, Imports: []Import{}}), "ok")
	wantText(t, "full", Check(full()), "ok")
	wantText(t, "small", Check(small()), "ok")
	wantText(t, "largest", Check(largest()), "ok")
}

// largest stands at every limit.
func largest() Module {
	block := Block{End: End{Op: Branch, A: 7, To: 11, Else: 0}}
	for range 12 {
		block.Insns = append(block.Insns, Insn{Op: Call, D: 7, B: 23, Args: []int{7, 7, 7, 7}})
	}
	block.Insns[11] = Insn{Op: Store, A: 7, B: 15}
	m := Module{Cells: make([]int64, 16)}
	for f := range 23 {
		fn := Func{Name: fmt.Sprintf("abcdefghij%02d", f), Arity: 4, Regs: 8}
		for range 12 {
			fn.Blocks = append(fn.Blocks, block)
		}
		m.Funcs = append(m.Funcs, fn)
	}
	m.Imports = []Import{{Name: "z", Arity: 4}}
	return Copy(m)
}

// change is a fault: what it touches, how it is made in full, and what Check tells of it.
type change struct {
	touches string
	make    func(m *Module)
	want    string
}

// faults are all of Check's, in the document's order.
func faults() []change {
	insn := func(m *Module, b, i int) *Insn { return &m.Funcs[0].Blocks[b].Insns[i] }
	end := func(m *Module, b int) *End { return &m.Funcs[0].Blocks[b].End }
	return []change{
		{"cells", func(m *Module) { m.Cells = make([]int64, 17) }, "size"},
		{"count", func(m *Module) { m.Imports = append(m.Imports, make([]Import, 21)...) }, "size"},
		{"name0", func(m *Module) { m.Funcs[0].Name = "Main" }, "0 name"},
		{"arity0", func(m *Module) { m.Funcs[0].Arity = -1 }, "0 arity"},
		{"arity0", func(m *Module) { m.Funcs[0].Arity = 5 }, "0 arity"},
		{"regs0", func(m *Module) { m.Funcs[0].Regs = 0 }, "0 register"},
		{"regs0", func(m *Module) { m.Funcs[0].Regs = 9 }, "0 register"},
		{"blocks0", func(m *Module) { m.Funcs[0].Blocks = append(m.Funcs[0].Blocks, make([]Block, 10)...) }, "0 size"},
		{"insns00", func(m *Module) {
			m.Funcs[0].Blocks[0].Insns = append(m.Funcs[0].Blocks[0].Insns, Insn{Op: Output})
		}, "0.0 size"},
		{"op000", func(m *Module) { insn(m, 0, 0).Op = 0 }, "0.0.0 tag"},
		{"a000", func(m *Module) { insn(m, 0, 0).A = 1 }, "0.0.0 form"},
		{"args000", func(m *Module) { insn(m, 0, 0).Args = []int{0} }, "0.0.0 form"},
		{"d000", func(m *Module) { insn(m, 0, 0).D = 3 }, "0.0.0 register"},
		{"op001", func(m *Module) { insn(m, 0, 1).Op = 18 }, "0.0.1 tag"},
		{"a001", func(m *Module) { insn(m, 0, 1).A = -1 }, "0.0.1 register"},
		{"b003", func(m *Module) { insn(m, 0, 3).B = 3 }, "0.0.3 register"},
		{"endop00", func(m *Module) { end(m, 0).Op = 4 }, "0.0.12 tag"},
		{"enda00", func(m *Module) { end(m, 0).A = 3 }, "0.0.12 register"},
		{"endto00", func(m *Module) { end(m, 0).To = 3 }, "0.0.12 label"},
		{"endelse00", func(m *Module) { end(m, 0).Else = -1 }, "0.0.12 label"},
		{"n010", func(m *Module) { insn(m, 1, 0).N = 1 }, "0.1.0 form"},
		{"d010", func(m *Module) { insn(m, 1, 0).D = -1 }, "0.1.0 register"},
		{"b010", func(m *Module) { insn(m, 1, 0).B = 2 }, "0.1.0 range"},
		{"a011", func(m *Module) { insn(m, 1, 1).A = 3 }, "0.1.1 register"},
		{"b011", func(m *Module) { insn(m, 1, 1).B = -1 }, "0.1.1 range"},
		{"a014", func(m *Module) { insn(m, 1, 4).A = 1 }, "0.1.4 form"},
		{"d014", func(m *Module) { insn(m, 1, 4).D = 3 }, "0.1.4 register"},
		{"b014", func(m *Module) { insn(m, 1, 4).B = 4 }, "0.1.4 symbol"},
		{"args014", func(m *Module) { insn(m, 1, 4).Args = []int{3} }, "0.1.4 arity"},
		{"args014", func(m *Module) { insn(m, 1, 4).Args = []int{0, 3} }, "0.1.4 register"},
		{"enda01", func(m *Module) { end(m, 1).A = 1 }, "0.1.7 form"},
		{"endelse01", func(m *Module) { end(m, 1).Else = 1 }, "0.1.7 form"},
		{"endto01", func(m *Module) { end(m, 1).To = -1 }, "0.1.7 label"},
		{"endto02", func(m *Module) { end(m, 2).To = 1 }, "0.2.0 form"},
		{"enda02", func(m *Module) { end(m, 2).A = -1 }, "0.2.0 register"},
		{"name1", func(m *Module) { m.Funcs[1].Name = "" }, "1 name"},
		{"name1", func(m *Module) { m.Funcs[1].Name = "main" }, "1 symbol"},
		{"regs1", func(m *Module) { m.Funcs[1].Regs = 1 }, "1 register"},
		{"blocks1", func(m *Module) { m.Funcs[1].Blocks = nil }, "1 size"},
		{"op1", func(m *Module) { m.Funcs[1].Blocks[0].Insns[1].Op = -1 }, "1.0.1 tag"},
		{"endop1", func(m *Module) { m.Funcs[1].Blocks[0].End.Op = 0 }, "1.0.2 tag"},
		{"iname0", func(m *Module) { m.Imports[0].Name = "1ask" }, "2 name"},
		{"iname0", func(m *Module) { m.Imports[0].Name = "main" }, "2 symbol"},
		{"iname1", func(m *Module) { m.Imports[1].Name = "zap!" }, "3 name"},
		{"iname1", func(m *Module) { m.Imports[1].Name = "aaa" }, "3 form"},
		{"iname1", func(m *Module) { m.Imports[1].Name = "twice" }, "3 symbol"},
	}
}

// P4.1: each fault by itself, at its place.
func TestCheckOneFault(t *testing.T) {
	for i, c := range faults() {
		m := full()
		c.make(&m)
		wantText(t, fmt.Sprint(i, " ", c.touches), Check(m), c.want)
	}
}

// P4.1: of two faults the one that stands first in the document is told.
func TestCheckTwoFaults(t *testing.T) {
	all := faults()
	for i, a := range all {
		for _, b := range all[i+1:] {
			if a.touches == b.touches {
				continue
			}
			m := full()
			// The later one is made first: it needs what the earlier one may take away.
			b.make(&m)
			a.make(&m)
			wantText(t, a.touches+" and "+b.touches, Check(m), a.want)
		}
	}
}

// P4.1: faults of one part: what is named first counts, whatever else is wrong with it.
func TestCheckOrderWithinAPart(t *testing.T) {
	for _, c := range []struct {
		x    Insn
		want string
	}{
		{Insn{Op: 0, D: 9, A: 9, B: 9, N: 9, Args: []int{9}}, "0.0.0 tag"},
		{Insn{Op: 18, D: 9}, "0.0.0 tag"},
		{Insn{Op: Const, D: 9, A: 1}, "0.0.0 form"},
		{Insn{Op: Load, D: 9, B: 9, N: 1}, "0.0.0 form"},
		{Insn{Op: Load, D: 9, B: 9}, "0.0.0 register"},
		{Insn{Op: Load, D: 0, B: 9}, "0.0.0 range"},
		{Insn{Op: Store, A: 9, B: 9, D: 1}, "0.0.0 form"},
		{Insn{Op: Store, A: 9, B: 9}, "0.0.0 register"},
		{Insn{Op: Store, A: 1, B: 9}, "0.0.0 range"},
		{Insn{Op: Call, D: 9, A: 1, B: 9, Args: []int{9, 9}}, "0.0.0 form"},
		{Insn{Op: Call, D: 9, B: 9, N: 1, Args: []int{9, 9}}, "0.0.0 form"},
		{Insn{Op: Call, D: 9, B: 9, Args: []int{9, 9}}, "0.0.0 register"},
		{Insn{Op: Call, D: 1, B: 9, Args: []int{9, 9}}, "0.0.0 symbol"},
		{Insn{Op: Call, D: 1, B: 2, Args: []int{9, 9}}, "0.0.0 symbol"},
		{Insn{Op: Call, D: 1, B: -1, Args: []int{9, 9}}, "0.0.0 symbol"},
		{Insn{Op: Call, D: 1, B: 1, Args: []int{9, 9}}, "0.0.0 arity"},
		{Insn{Op: Call, D: 1, B: 1}, "0.0.0 arity"},
		{Insn{Op: Call, D: 1, B: 1, Args: []int{9}}, "0.0.0 register"},
		{Insn{Op: Call, D: 1, B: 1, Args: []int{-1}}, "0.0.0 register"},
		{Insn{Op: Call, D: 1, B: 1, Args: []int{1}}, "ok"},
		{Insn{Op: Call, D: 1, B: 0, Args: []int{1}}, "ok"},
	} {
		wantText(t, fmt.Sprint(c.x), Check(small(c.x)), c.want)
	}
	for _, c := range []struct {
		e    End
		want string
	}{
		{End{Op: 0, A: 9, To: 9, Else: 9}, "0.0.0 tag"},
		{End{Op: Jump, A: 9, To: 9}, "0.0.0 form"},
		{End{Op: Jump, To: 9, Else: 9}, "0.0.0 form"},
		{End{Op: Jump, To: 1}, "0.0.0 label"},
		{End{Op: Branch, A: 9, To: 9, Else: 9}, "0.0.0 register"},
		{End{Op: Branch, A: 1, To: 9, Else: 0}, "0.0.0 label"},
		{End{Op: Branch, A: 1, To: 0, Else: 9}, "0.0.0 label"},
		{End{Op: Branch, A: 1, To: 0, Else: 0}, "ok"},
		{End{Op: Return, A: 9, To: 9}, "0.0.0 form"},
		{End{Op: Return, A: 9, Else: 9}, "0.0.0 form"},
		{End{Op: Return, A: 2}, "0.0.0 register"},
		{End{Op: Return, A: 1}, "ok"},
	} {
		m := small()
		m.Funcs[0].Blocks[0].End = c.e
		wantText(t, fmt.Sprint(c.e), Check(m), c.want)
	}
}

// P4.1: a function's head: which error, of each and of several.
func TestCheckHead(t *testing.T) {
	blocks := func(n int) []Block {
		return slices.Repeat([]Block{{End: End{Op: Return}}}, n)
	}
	for _, c := range []struct {
		f    Func
		want string
	}{
		{Func{Name: "b", Arity: 0, Regs: 1, Blocks: blocks(1)}, "ok"},
		{Func{Name: "b", Arity: 4, Regs: 4, Blocks: blocks(12)}, "ok"},
		{Func{Name: "b", Arity: 4, Regs: 8, Blocks: blocks(12)}, "ok"},
		{Func{Name: "", Arity: -1, Regs: -1}, "1 name"},
		{Func{Name: "a", Arity: -1, Regs: -1}, "1 symbol"},
		{Func{Name: "b", Arity: -1, Regs: -1}, "1 arity"},
		{Func{Name: "b", Arity: math.MinInt, Regs: 1, Blocks: blocks(1)}, "1 arity"},
		{Func{Name: "b", Arity: 5, Regs: 8, Blocks: blocks(1)}, "1 arity"},
		{Func{Name: "b", Arity: 5, Regs: 4}, "1 arity"},
		{Func{Name: "b", Arity: 4, Regs: 3}, "1 register"},
		{Func{Name: "b", Arity: 0, Regs: 0}, "1 register"},
		{Func{Name: "b", Arity: 0, Regs: -1, Blocks: blocks(1)}, "1 register"},
		{Func{Name: "b", Arity: 0, Regs: math.MinInt, Blocks: blocks(1)}, "1 register"},
		{Func{Name: "b", Arity: 0, Regs: 9, Blocks: blocks(13)}, "1 register"},
		{Func{Name: "b", Arity: 0, Regs: 8}, "1 size"},
		{Func{Name: "b", Arity: 0, Regs: 8, Blocks: []Block{}}, "1 size"},
		{Func{Name: "b", Arity: 0, Regs: 8, Blocks: blocks(13)}, "1 size"},
		{Func{Name: "b", Arity: 0, Regs: 8, Blocks: make([]Block, 13)}, "1 size"},
	} {
		m := Module{Funcs: []Func{{Name: "a", Regs: 1, Blocks: blocks(1)}, c.f}}
		wantText(t, fmt.Sprint(c.f), Check(m), c.want)
	}
}

// P4.1: a function is looked at whole ahead of the next one, and all of them ahead of the imports.
func TestCheckGoesPartByPart(t *testing.T) {
	good := Block{End: End{Op: Return}}
	m := Module{
		Funcs:   []Func{{Name: "a", Regs: 1, Blocks: []Block{good, {}}}, {Name: "A"}},
		Imports: []Import{{Name: "B"}},
	}
	wantText(t, "an End ahead of a head", Check(m), "0.1.0 tag")
	m.Funcs[0].Blocks[1] = good
	wantText(t, "a head ahead of an import", Check(m), "1 name")
	m.Funcs[1] = Func{Name: "b", Regs: 1, Blocks: []Block{{Insns: []Insn{{}, {}}}, {Insns: make([]Insn, 13)}}}
	wantText(t, "an instruction ahead of the next block", Check(m), "1.0.0 tag")
	m.Funcs[1].Blocks[0].Insns = nil
	wantText(t, "an End ahead of the next block", Check(m), "1.0.0 tag")
	m.Funcs[1].Blocks[0] = good
	wantText(t, "too many instructions ahead of each of them", Check(m), "1.1 size")
	m.Funcs[1].Blocks[1] = Block{Insns: []Insn{{Op: Input}, {Op: Input, D: 1}}}
	wantText(t, "an instruction ahead of its End", Check(m), "1.1.1 register")
	m.Funcs[1].Blocks[1] = good
	wantText(t, "an import", Check(m), "2 name")
}

// P4.1: the sizes, without a place, ahead of all else.
func TestCheckSizes(t *testing.T) {
	many := func(cells, funcs, imports int) Module {
		m := Module{Cells: make([]int64, cells)}
		for i := range funcs {
			m.Funcs = append(m.Funcs, Func{Name: fmt.Sprint("f", i), Regs: 1, Blocks: []Block{{End: End{Op: Return}}}})
		}
		for i := range imports {
			m.Imports = append(m.Imports, Import{Name: fmt.Sprintf("i%02d", i)})
		}
		return m
	}
	for _, c := range []struct {
		cells, funcs, imports int
		want                  string
	}{
		{16, 0, 0, "ok"}, {17, 0, 0, "size"}, {1000, 0, 0, "size"},
		{0, 24, 0, "ok"}, {0, 25, 0, "size"}, {0, 0, 24, "ok"}, {0, 0, 25, "size"},
		{16, 12, 12, "ok"}, {16, 12, 13, "size"}, {16, 13, 12, "size"}, {17, 24, 1, "size"},
	} {
		wantText(t, fmt.Sprint(c), Check(many(c.cells, c.funcs, c.imports)), c.want)
	}
	wantText(t, "sizes ahead of names", Check(Module{Funcs: make([]Func, 25)}), "size")
	wantText(t, "so many functions, none right", Check(Module{Funcs: make([]Func, 24)}), "0 name")
}

// P4.1: which names may be, of functions and of imports.
func TestCheckNames(t *testing.T) {
	for name, right := range map[string]bool{
		"a": true, "z": true, "az09": true, "a0": true, "abcdefghijkl": true, "a23456789012": true,
		"": false, "abcdefghijklm": false, "0": false, "9a": false, "A": false, "aB": false, "a_": false, "_a": false,
		"a ": false, " a": false, "a-b": false, "`": false, "{": false, "a`": false, "a{": false, "a/": false, "a:": false,
		"a\x00": false, "\x00": false, "a\x80": false, "\xe4": false, "ä": false, "aä": false, "a\n": false, "a.b": false,
		strings.Repeat("a", 1000): false,
	} {
		want := func(place string) string {
			if right {
				return "ok"
			}
			return place + " name"
		}
		m := small()
		m.Imports = nil
		m.Funcs[0].Name = name
		wantText(t, "function "+name, Check(m), want("0"))
		wantText(t, "import "+name, Check(Module{Imports: []Import{{Name: name}}}), want("0"))
	}
}

// P4.1: imports rise by their names, byte by byte, and have none that a function has.
func TestCheckImports(t *testing.T) {
	f := []Func{{Name: "m", Regs: 1, Blocks: []Block{{End: End{Op: Return}}}}}
	for _, c := range []struct {
		imports []Import
		want    string
	}{
		{[]Import{{"a", 0}, {"b", 4}}, "ok"},
		{[]Import{{"a", 0}, {"aa", 0}, {"ab", 0}, {"b", 0}}, "ok"},
		{[]Import{{"a9", 0}, {"aa", 0}}, "ok"},
		{[]Import{{"aa", 0}, {"a9", 0}}, "2 form"},
		{[]Import{{"aa", 0}, {"a", 0}}, "2 form"},
		{[]Import{{"a", 0}, {"a", 0}}, "2 form"},
		{[]Import{{"a", 0}, {"a", 5}}, "2 form"},
		{[]Import{{"b", 0}, {"a", 0}, {"c", 0}}, "2 form"},
		{[]Import{{"m", 0}}, "1 symbol"},
		{[]Import{{"m", 5}}, "1 symbol"},
		{[]Import{{"m", 0}, {"m", 0}}, "1 symbol"},
		{[]Import{{"n", 0}, {"m", 0}}, "2 form"},
		{[]Import{{"a", 0}, {"m", -1}}, "2 symbol"},
		{[]Import{{"a", 5}}, "1 arity"},
		{[]Import{{"a", -1}}, "1 arity"},
		{[]Import{{"a", 0}, {"b", math.MinInt}}, "2 arity"},
		{[]Import{{"a", 0}, {"", 5}}, "2 name"},
		{[]Import{{"b", 0}, {"A", 5}}, "2 name"},
	} {
		wantText(t, fmt.Sprint(c.imports), Check(Module{Funcs: f, Imports: c.imports}), c.want)
	}
}

// P4.1: an instruction that has something in a field that it doesn't use.
func TestCheckUnusedFields(t *testing.T) {
	for op := range fieldsOf {
		base := Insn{Op: op}
		if op == Call {
			base.Args = []int{0}
		}
		wantText(t, fmt.Sprint(base), Check(small(base)), "ok")
		for _, n := range []int{1, -1, math.MaxInt, math.MinInt} {
			for field, set := range map[string]func(*Insn){
				"D": func(x *Insn) { x.D = n }, "A": func(x *Insn) { x.A = n }, "B": func(x *Insn) { x.B = n },
				"N": func(x *Insn) { x.N = int64(n) }, "Args": func(x *Insn) { x.Args = []int{n} },
			} {
				x := base
				set(&x)
				want := "0.0.0 form"
				switch {
				case uses(op, field) && (n == 1 || field == "N"):
					want = "ok"
				case uses(op, field) && field == "B" && (op == Load || op == Store):
					want = "0.0.0 range"
				case uses(op, field) && field == "B" && op == Call:
					want = "0.0.0 symbol"
				case uses(op, field):
					want = "0.0.0 register"
				}
				wantText(t, fmt.Sprint(field, " ", x), Check(small(x)), want)
			}
		}
		x := base
		x.Args = append([]int{}, base.Args...)
		wantText(t, "an empty list is none", Check(small(x)), "ok")
	}
}

// P4.1: the same of Ends.
func TestCheckUnusedEndFields(t *testing.T) {
	for op := range endFieldsOf {
		for _, n := range []int{1, -1, math.MaxInt, math.MinInt} {
			for field, set := range map[string]func(*End){
				"A": func(e *End) { e.A = n }, "To": func(e *End) { e.To = n }, "Else": func(e *End) { e.Else = n },
			} {
				m := small()
				m.Funcs[0].Blocks = append(m.Funcs[0].Blocks, Block{End: End{Op: op}})
				set(&m.Funcs[0].Blocks[1].End)
				want := "0.1.0 form"
				switch {
				case endUses(op, field) && n == 1:
					want = "ok"
				case endUses(op, field) && field == "A":
					want = "0.1.0 register"
				case endUses(op, field):
					want = "0.1.0 label"
				}
				wantText(t, fmt.Sprint(field, " ", m.Funcs[0].Blocks[1].End), Check(m), want)
			}
		}
	}
}

// P4.1: registers from 0 to Regs - 1 may be, cells and functions likewise.
func TestCheckBounds(t *testing.T) {
	for n := -2; n < 5; n++ {
		for op, used := range fieldsOf {
			for _, field := range strings.Fields(used) {
				x := Insn{Op: op}
				if op == Call {
					x.Args = []int{0}
				}
				switch field {
				case "D":
					x.D = n
				case "A":
					x.A = n
				case "B":
					x.B = n
				case "Args":
					x.Args[0] = n
				case "N":
					continue
				}
				want := "ok"
				if n < 0 || n > 1 {
					want = "0.0.0 register"
				}
				if want != "ok" && field == "B" && (op == Load || op == Store) {
					want = "0.0.0 range"
				}
				if want != "ok" && field == "B" && op == Call {
					want = "0.0.0 symbol"
				}
				wantText(t, fmt.Sprint(x), Check(small(x)), want)
			}
		}
	}
	m := small(Insn{Op: Load})
	m.Cells = nil
	wantText(t, "no cells at all", Check(m), "0.0.0 range")
}

// P4.1: Ops that are none.
func TestCheckNoSuchOp(t *testing.T) {
	for _, op := range []int{0, -1, 18, 19, 256 + Const, math.MaxInt, math.MinInt} {
		wantText(t, fmt.Sprint("Op ", op), Check(small(Insn{Op: Const}, Insn{Op: op})), "0.0.1 tag")
	}
	for _, op := range []int{0, -1, 4, 5, 256 + Jump, math.MaxInt, math.MinInt} {
		m := small(Insn{Op: Const})
		m.Funcs[0].Blocks[0].End = End{Op: op}
		wantText(t, fmt.Sprint("End's Op ", op), Check(m), "0.0.1 tag")
	}
}

// P4.1: what is called has as many arguments as it says, be that right or not.
func TestCheckCallsOfWrongFunctions(t *testing.T) {
	call := func(arity int, args ...int) Module {
		m := small(Insn{Op: Call, B: 1, Args: args})
		m.Funcs = append(m.Funcs, Func{Name: "b", Arity: arity, Regs: 5, Blocks: []Block{{End: End{Op: Return}}}})
		m.Imports = nil
		return m
	}
	wantText(t, "as many", Check(call(4, 0, 1, 0, 1)), "ok")
	wantText(t, "fewer", Check(call(4, 0, 1, 0)), "0.0.0 arity")
	wantText(t, "more", Check(call(4, 0, 1, 0, 1, 0)), "0.0.0 arity")
	wantText(t, "as many as can't be", Check(call(5, 0, 1, 0, 1, 0)), "1 arity")
	wantText(t, "fewer than none", Check(call(-1)), "0.0.0 arity")
	wantText(t, "itself", Check(small(Insn{Op: Call, B: 0, Args: []int{1}})), "ok")
}

// P4.1: Uses and Sets, of instructions that are well-formed or not.
func TestUsesAndSets(t *testing.T) {
	for op := -2; op < 25; op++ {
		for _, n := range [][3]int{{1, 2, 3}, {3, 2, 1}, {2, 2, 2}, {0, 5, 0}, {-1, 9, -7}} {
			for _, args := range [][]int{nil, {}, {4}, {3, 1, 3, 2}, {1, 1, 1, 1}, {7, -1, 100}} {
				x := Insn{Op: op, D: n[0], A: n[1], B: n[2], N: 6, Args: args}
				read := map[int]bool{}
				if uses(op, "A") {
					read[x.A] = true
				}
				if uses(op, "B") && op >= Add && op <= Same {
					read[x.B] = true
				}
				if uses(op, "Args") {
					for _, r := range args {
						read[r] = true
					}
				}
				got := Uses(x)
				if len(got) != len(read) || !slices.IsSorted(got) {
					t.Errorf("Uses(%v): got %v", x, got)
				}
				for _, r := range got {
					if !read[r] {
						t.Errorf("Uses(%v): got %v", x, got)
					}
				}
				wantD, want := 0, uses(op, "D")
				if want {
					wantD = x.D
				}
				if d, ok := Sets(x); d != wantD || ok != want {
					t.Errorf("Sets(%v): got %d, %v", x, d, ok)
				}
			}
		}
	}
	for _, c := range []struct {
		x    Insn
		uses []int
		d    int
		sets bool
	}{
		{Insn{Op: Sub, D: 1, A: 3, B: 2}, []int{2, 3}, 1, true},
		{Insn{Op: Sub, D: 1, A: 1, B: 1}, []int{1}, 1, true},
		{Insn{Op: Store, D: 4, A: 3, B: 2}, []int{3}, 0, false},
		{Insn{Op: Output, D: 4, A: 3, B: 2}, []int{3}, 0, false},
		{Insn{Op: Load, D: 4, A: 3, B: 2}, nil, 4, true},
		{Insn{Op: Input, D: 4, A: 3}, nil, 4, true},
		{Insn{Op: Const, D: 0, A: 3, N: 2}, nil, 0, true},
		{Insn{Op: Call, D: 4, A: 3, B: 6, Args: []int{5, 0, 5, 2}}, []int{0, 2, 5}, 4, true},
		{Insn{Op: 18, D: 4, A: 3, B: 6, Args: []int{5}}, nil, 0, false},
	} {
		d, sets := Sets(c.x)
		if got := Uses(c.x); !slices.Equal(got, c.uses) || d != c.d || sets != c.sets {
			t.Errorf("%v: got %v, %d, %v", c.x, got, d, sets)
		}
	}
}

// P4.1: Reads and Targets.
func TestReadsAndTargets(t *testing.T) {
	for _, c := range []struct {
		e              End
		reads, targets []int
	}{
		{End{Op: Jump, A: 5, To: 3, Else: 4}, nil, []int{3}},
		{End{Op: Jump}, nil, []int{0}},
		{End{Op: Branch, A: 5, To: 3, Else: 4}, []int{5}, []int{3, 4}},
		{End{Op: Branch, A: 5, To: 4, Else: 3}, []int{5}, []int{4, 3}},
		{End{Op: Branch, A: 0, To: 4, Else: 4}, []int{0}, []int{4}},
		{End{Op: Branch}, []int{0}, []int{0}},
		{End{Op: Branch, A: -1, To: -2, Else: 99}, []int{-1}, []int{-2, 99}},
		{End{Op: Return, A: 5, To: 3, Else: 4}, []int{5}, nil},
		{End{Op: Return}, []int{0}, nil},
		{End{Op: 0, A: 5, To: 3, Else: 4}, nil, nil},
		{End{Op: 4, A: 5, To: 3, Else: 4}, nil, nil},
		{End{Op: -1, A: 5, To: 3, Else: 4}, nil, nil},
	} {
		if got := Reads(c.e); !slices.Equal(got, c.reads) {
			t.Errorf("Reads(%v): got %v", c.e, got)
		}
		if got := Targets(c.e); !slices.Equal(got, c.targets) {
			t.Errorf("Targets(%v): got %v", c.e, got)
		}
	}
}

// P4.1: Name, Arity and Find.
func TestNames(t *testing.T) {
	m := full()
	for f, want := range []struct {
		name  string
		arity int
	}{{"main", 0}, {"twice", 2}, {"ask", 0}, {"zap", 4}} {
		if Name(m, f) != want.name || Arity(m, f) != want.arity || Find(m, want.name) != f {
			t.Errorf("%d: got %q, %d, %d", f, Name(m, f), Arity(m, f), Find(m, want.name))
		}
	}
	for _, f := range []int{-1, 4, 5, math.MaxInt, math.MinInt} {
		if Name(m, f) != "" || Arity(m, f) != -1 {
			t.Errorf("%d: got %q, %d", f, Name(m, f), Arity(m, f))
		}
	}
	for _, name := range []string{"", "mai", "main0", "Main", "x"} {
		if got := Find(m, name); got != -1 {
			t.Errorf("Find(%q): got %d", name, got)
		}
	}
	if Find(Module{}, "main") != -1 || Name(Module{}, 0) != "" || Arity(Module{}, 0) != -1 {
		t.Error("a module without anything has a function")
	}
	m = Module{Funcs: []Func{{Name: "a"}, {Name: "b", Arity: -7}, {Name: "b"}}, Imports: []Import{{Name: "c"}, {Name: "a"}, {Name: "c"}, {Name: ""}}}
	if Find(m, "a") != 0 || Find(m, "b") != 1 || Find(m, "c") != 3 || Find(m, "") != 6 || Arity(m, 1) != -7 {
		t.Error("of several of one name not the first")
	}
}

// differences are one for each field of a module, each of them another module than full.
func differences() map[string]func(m *Module) {
	insn := func(m *Module) *Insn { return &m.Funcs[0].Blocks[1].Insns[4] }
	end := func(m *Module) *End { return &m.Funcs[0].Blocks[0].End }
	return map[string]func(m *Module){
		"cell":         func(m *Module) { m.Cells[1]++ },
		"more cells":   func(m *Module) { m.Cells = append(m.Cells, 0) },
		"fewer cells":  func(m *Module) { m.Cells = m.Cells[:1] },
		"name":         func(m *Module) { m.Funcs[1].Name = "thrice" },
		"arity":        func(m *Module) { m.Funcs[1].Arity-- },
		"regs":         func(m *Module) { m.Funcs[1].Regs++ },
		"more blocks":  func(m *Module) { m.Funcs[1].Blocks = append(m.Funcs[1].Blocks, Block{}) },
		"fewer blocks": func(m *Module) { m.Funcs[0].Blocks = m.Funcs[0].Blocks[:2] },
		"fewer funcs":  func(m *Module) { m.Funcs = m.Funcs[:1] },
		"other funcs":  func(m *Module) { m.Funcs[0], m.Funcs[1] = m.Funcs[1], m.Funcs[0] },
		"op":           func(m *Module) { insn(m).Op++ },
		"d":            func(m *Module) { insn(m).D++ },
		"a":            func(m *Module) { insn(m).A++ },
		"b":            func(m *Module) { insn(m).B++ },
		"n":            func(m *Module) { insn(m).N++ },
		"arg":          func(m *Module) { insn(m).Args[1]++ },
		"more args":    func(m *Module) { insn(m).Args = append(insn(m).Args, 0) },
		"fewer args":   func(m *Module) { insn(m).Args = insn(m).Args[:1] },
		"fewer insns":  func(m *Module) { m.Funcs[0].Blocks[0].Insns = m.Funcs[0].Blocks[0].Insns[:11] },
		"end op":       func(m *Module) { end(m).Op++ },
		"end a":        func(m *Module) { end(m).A++ },
		"end to":       func(m *Module) { end(m).To++ },
		"end else":     func(m *Module) { end(m).Else++ },
		"import name":  func(m *Module) { m.Imports[1].Name = "zip" },
		"import arity": func(m *Module) { m.Imports[1].Arity-- },
		"more imports": func(m *Module) { m.Imports = append(m.Imports, Import{}) },
		"no imports":   func(m *Module) { m.Imports = nil },
	}
}

// P4.1: Equal sees every field, and nil and empty lists as one.
func TestEqual(t *testing.T) {
	if !Equal(full(), full()) || !Equal(Module{}, Module{}) {
		t.Error("a module isn't equal to itself")
	}
	for name, differ := range differences() {
		m := full()
		differ(&m)
		if Equal(m, full()) || Equal(full(), m) {
			t.Errorf("%s: not seen", name)
		}
		if !Equal(m, Copy(m)) {
			t.Errorf("%s: a copy isn't equal", name)
		}
	}
	a := Module{Funcs: []Func{{}, {Blocks: []Block{{}, {Insns: []Insn{{}}}}}}}
	b := Module{Cells: []int64{}, Imports: []Import{}, Funcs: []Func{{Blocks: []Block{}}, {Blocks: []Block{{Insns: []Insn{}}, {Insns: []Insn{{Args: []int{}}}}}}}}
	if !Equal(a, b) || !Equal(b, a) || !Equal(Copy(b), a) {
		t.Error("nil and empty lists aren't one")
	}
}

// P4.3: a copy shares nothing with what it was made of, spare room neither.
func TestCopyIsNewMemory(t *testing.T) {
	for name, differ := range differences() {
		m := full()
		c := Copy(m)
		differ(&m)
		if !Equal(c, full()) {
			t.Errorf("%s: the copy changed with the module", name)
		}
		m = full()
		c = Copy(m)
		differ(&c)
		if !Equal(m, full()) {
			t.Errorf("%s: the module changed with the copy", name)
		}
	}
	m := roomy()
	c := Copy(m)
	c.Cells = append(c.Cells, 1)
	c.Funcs = append(c.Funcs, Func{Name: "c"})
	c.Imports = append(c.Imports, Import{Name: "c"})
	c.Funcs[0].Blocks = append(c.Funcs[0].Blocks, Block{End: End{Op: 1}})
	c.Funcs[0].Blocks[0].Insns = append(c.Funcs[0].Blocks[0].Insns, Insn{Op: 1})
	c.Funcs[0].Blocks[0].Insns[0].Args = append(c.Funcs[0].Blocks[0].Insns[0].Args, 1)
	if !reflect.DeepEqual(spare(m), spare(roomy())) {
		t.Error("the copy writes into the module's spare room")
	}
}

// roomy has a list with spare room wherever a list may be.
func roomy() Module {
	x := Insn{Op: Call, Args: []int{5, 4, 4, 9}[:3]}
	b := Block{Insns: []Insn{x, {Op: 9}}[:1]}
	f := Func{Blocks: []Block{b, {}}[:1]}
	return Module{Cells: []int64{3, 4}[:1], Funcs: []Func{f, {Name: "s"}}[:1], Imports: []Import{{}, {Name: "s"}}[:1]}
}

// spare shows all of roomy, with its spare room.
func spare(m Module) []any {
	f := m.Funcs[0]
	x := f.Blocks[0].Insns[0]
	return []any{m.Cells[:2], m.Funcs[:2], m.Imports[:2], f.Blocks[:2], f.Blocks[0].Insns[:2], x.Args[:4]}
}

// P4.3: no call changes what it is given, and no answer is part of it.
func TestNothingIsChangedOrKept(t *testing.T) {
	m := roomy()
	everyCall(m)
	if !reflect.DeepEqual(spare(m), spare(roomy())) {
		t.Error("a call changed its module")
	}
	args := []int{3, 1, 3, 2, 77}
	x := Insn{Op: Call, Args: args[:4]}
	got := Uses(x)
	if !slices.Equal(got, []int{1, 2, 3}) || !slices.Equal(args, []int{3, 1, 3, 2, 77}) {
		t.Errorf("got %v, Args are %v", got, args)
	}
	clear(append(got[:cap(got)], 0, 0))
	if !slices.Equal(args, []int{3, 1, 3, 2, 77}) || !slices.Equal(Uses(x), []int{1, 2, 3}) {
		t.Error("what Uses answers is part of what it is given")
	}
	one := Insn{Op: Call, Args: args[:1]}
	got = Uses(one)
	got[0] = 9
	_ = append(got, 8)
	if !slices.Equal(args, []int{3, 1, 3, 2, 77}) {
		t.Error("what Uses answers is part of what it is given")
	}
	e := End{Op: Branch, A: 1, To: 2, Else: 3}
	Reads(e)[0], Targets(e)[1] = 9, 9
	if !slices.Equal(Reads(e), []int{1}) || !slices.Equal(Targets(e), []int{2, 3}) {
		t.Error("an answer is kept")
	}
}

// everyCall calls all with m.
func everyCall(m Module) {
	Check(m)
	Find(m, "s")
	Equal(m, Copy(m))
	Sites(m)
	for f := -2; f < len(m.Funcs)+len(m.Imports)+2; f++ {
		Name(m, f)
		Arity(m, f)
		First(m, f)
		for b := -2; b < 5; b++ {
			for i := -2; i < 15; i++ {
				Site(m, f, b, i)
			}
		}
	}
	for _, s := range []int{math.MinInt, -1, 0, 1, 2, 5, 20, math.MaxInt} {
		Where(m, s)
	}
	for _, f := range m.Funcs {
		for _, b := range f.Blocks {
			Reads(b.End)
			Targets(b.End)
			for _, x := range b.Insns {
				Uses(x)
				Sets(x)
			}
		}
	}
}

// P4.1, P4.2: the document's example.
func TestSitesExample(t *testing.T) {
	m := Module{Funcs: []Func{{Name: "main", Regs: 2, Blocks: []Block{{Insns: []Insn{{Op: Const}}, End: End{Op: Return}}}}}}
	if Sites(m) != 3 || First(m, 0) != 0 || Site(m, 0, 0, 0) != 2 {
		t.Error(Sites(m), First(m, 0), Site(m, 0, 0, 0))
	}
	for site, want := range [][3]int{{0, -1, 0}, {0, -1, 1}, {0, 0, 0}, {-1, -1, -1}} {
		if f, b, i := Where(m, site); [3]int{f, b, i} != want {
			t.Errorf("Where(%d): got %d, %d, %d", site, f, b, i)
		}
	}
}

// places are those of all sites, in the order that the document gives.
func places(m Module) [][3]int {
	var all [][3]int
	for f, fn := range m.Funcs {
		for r := range fn.Regs {
			all = append(all, [3]int{f, -1, r})
		}
		for b, block := range fn.Blocks {
			for i, x := range block.Insns {
				if uses(x.Op, "D") {
					all = append(all, [3]int{f, b, i})
				}
			}
		}
	}
	return all
}

// P4.1, P4.2: sites and places undo each other, in modules of all kinds; where there is none, there is none.
func TestSites(t *testing.T) {
	modules := []Module{{}, full(), small(), largest(), {Imports: []Import{{Name: "a"}}}}
	source := rand.New(rand.NewSource(4))
	for range 300 {
		modules = append(modules, someModule(source))
	}
	for _, m := range modules {
		if e := Check(m); e != nil {
			t.Fatalf("%v: %s", m, fault.Text(e))
		}
		sameSites(t, m)
	}
}

func sameSites(t *testing.T, m Module) {
	t.Helper()
	all := places(m)
	if Sites(m) != len(all) {
		t.Errorf("Sites: got %d, want %d", Sites(m), len(all))
	}
	for site, want := range all {
		f, b, i := Where(m, site)
		if [3]int{f, b, i} != want {
			t.Errorf("Where(%d): got %d, %d, %d, want %v", site, f, b, i, want)
		}
		if b >= 0 && Site(m, f, b, i) != site {
			t.Errorf("Site%v: got %d, want %d", want, Site(m, f, b, i), site)
		}
		if b < 0 && (First(m, f)+i != site || Site(m, f, b, i) != -1) {
			t.Errorf("register %v: got %d, %d, want %d", want, First(m, f), Site(m, f, b, i), site)
		}
	}
	for _, site := range []int{math.MinInt, -2, -1, len(all), len(all) + 1, math.MaxInt} {
		if f, b, i := Where(m, site); f != -1 || b != -1 || i != -1 {
			t.Errorf("Where(%d): got %d, %d, %d", site, f, b, i)
		}
	}
	for _, f := range []int{math.MinInt, -1, len(m.Funcs), len(m.Funcs) + 1, math.MaxInt} {
		if First(m, f) != -1 || Site(m, f, 0, 0) != -1 {
			t.Errorf("function %d: got %d, %d", f, First(m, f), Site(m, f, 0, 0))
		}
	}
	for f, fn := range m.Funcs {
		for b := -2; b < len(fn.Blocks)+2; b++ {
			for i := -2; i < 15; i++ {
				want := slices.Index(all, [3]int{f, b, i})
				if b < 0 {
					want = -1
				}
				if got := Site(m, f, b, i); got != want {
					t.Errorf("Site(%d, %d, %d): got %d, want %d", f, b, i, got, want)
				}
			}
		}
	}
}

// someModule is a well-formed one.
func someModule(source *rand.Rand) Module {
	m := Module{Cells: make([]int64, 1+source.Intn(3))}
	for f := range source.Intn(4) {
		arity := source.Intn(3)
		fn := Func{Name: fmt.Sprint("f", f), Arity: arity, Regs: max(1, arity) + source.Intn(3)}
		fn.Blocks = make([]Block, 1+source.Intn(4))
		m.Funcs = append(m.Funcs, fn)
	}
	for _, name := range []string{"g", "h", "i"}[:source.Intn(3)] {
		m.Imports = append(m.Imports, Import{Name: name, Arity: source.Intn(5)})
	}
	for f := range m.Funcs {
		for b := range m.Funcs[f].Blocks {
			fillBlock(source, m, m.Funcs[f], &m.Funcs[f].Blocks[b])
		}
	}
	return m
}

func fillBlock(source *rand.Rand, m Module, f Func, b *Block) {
	for range source.Intn(6) {
		x := Insn{Op: Const + source.Intn(Call)}
		if uses(x.Op, "D") {
			x.D = source.Intn(f.Regs)
		}
		if uses(x.Op, "A") {
			x.A = source.Intn(f.Regs)
		}
		switch {
		case x.Op == Load || x.Op == Store:
			x.B = source.Intn(len(m.Cells))
		case x.Op == Call:
			x.B = source.Intn(len(m.Funcs) + len(m.Imports))
			for range Arity(m, x.B) {
				x.Args = append(x.Args, source.Intn(f.Regs))
			}
		case x.Op == Const:
			x.N = int64(source.Uint64())
		case uses(x.Op, "B"):
			x.B = source.Intn(f.Regs)
		}
		b.Insns = append(b.Insns, x)
	}
	b.End = End{Op: Return, A: source.Intn(f.Regs)}
	if source.Intn(2) == 0 {
		b.End = End{Op: Branch, A: source.Intn(f.Regs), To: source.Intn(len(f.Blocks)), Else: source.Intn(len(f.Blocks))}
	}
}

// P1: all calls end, and none panics, whatever they are given.
func TestAnyModuleEnds(t *testing.T) {
	odd := []int{math.MinInt, math.MinInt + 1, -9, -1, 0, 1, 2, 3, 17, 18, math.MaxInt - 1, math.MaxInt}
	source := rand.New(rand.NewSource(14))
	pick := func() int { return odd[source.Intn(len(odd))] }
	for range 3000 {
		var m Module
		for range source.Intn(4) {
			f := Func{Name: []string{"", "a", "b"}[source.Intn(3)], Arity: pick(), Regs: pick()}
			for range source.Intn(3) {
				b := Block{End: End{Op: source.Intn(5), A: pick(), To: pick(), Else: pick()}}
				for range source.Intn(4) {
					b.Insns = append(b.Insns, Insn{Op: source.Intn(20), D: pick(), A: pick(), B: pick(), Args: odd[:source.Intn(5)]})
				}
				f.Blocks = append(f.Blocks, b)
			}
			m.Funcs = append(m.Funcs, f)
		}
		for range source.Intn(3) {
			m.Imports = append(m.Imports, Import{Name: "i", Arity: pick()})
		}
		everyCall(m)
	}
}
