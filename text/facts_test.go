package text_test

import (
	"fmt"
	"math"
	"math/rand"
	"strings"
	"testing"

	"averment/fact"
	"averment/flow"
	"averment/ir"
	"averment/known"
	"averment/span"
	"averment/state"
	"averment/table"
	"averment/text"
)

const least, greatest = math.MinInt64, math.MaxInt64

// value is one of these four parts; exact is nil, if no number is known.
func value(signs int, exact *int64, lo, hi int64, parity int) fact.Value {
	v := fact.Value{Sign: signs, Span: span.Span{Lo: lo, Hi: hi}, Parity: parity}
	if exact != nil {
		v.Known = known.Of(*exact)
	}
	return v
}

// P24.1: Values by hand, each of the four for itself.
func TestValue(t *testing.T) {
	zero, low, high := int64(0), int64(least), int64(greatest)
	for _, c := range []struct {
		v    fact.Value
		want string
	}{
		{fact.Any(), "NZP any .. both"},
		{fact.Of(5), "P =5 5..5 odd"},
		{fact.Of(0), "Z =0 0..0 even"},
		{fact.Of(-5), "N =-5 -5..-5 odd"},
		{fact.Of(-10), "N =-10 -10..-10 even"},
		{fact.Of(100), "P =100 100..100 even"},
		{fact.Of(least + 1), "N =-9223372036854775807 -9223372036854775807..-9223372036854775807 odd"},
		{fact.Of(greatest - 1), "P =9223372036854775806 9223372036854775806..9223372036854775806 even"},
		{fact.Join(fact.Of(2), fact.Of(4)), "P any 2..4 even"},
		{fact.Join(fact.Of(-1), fact.Of(2)), "NP any -1..2 both"},
		{value(1, nil, 1, 2, 1), "N any 1..2 even"},
		{value(2, nil, 1, 2, 2), "Z any 1..2 odd"},
		{value(3, nil, 1, 2, 3), "NZ any 1..2 both"},
		{value(4, nil, 1, 2, 1), "P any 1..2 even"},
		{value(5, nil, 1, 2, 1), "NP any 1..2 even"},
		{value(6, nil, 1, 2, 1), "ZP any 1..2 even"},
		{value(7, nil, 1, 2, 1), "NZP any 1..2 even"},
		{value(7, &zero, -7, 9, 3), "NZP =0 -7..9 both"},
		{value(7, &low, 0, 0, 3), "NZP =-9223372036854775808 0..0 both"},
		{value(7, &high, 0, 0, 3), "NZP =9223372036854775807 0..0 both"},
		{value(7, nil, least, 5, 3), "NZP any ..5 both"},
		{value(7, nil, 5, greatest, 3), "NZP any 5.. both"},
		{value(7, nil, least, -5, 3), "NZP any ..-5 both"},
		{value(7, nil, least, greatest, 3), "NZP any .. both"},
		// Either end is left out at either int, as the chapter's words are.
		{value(7, nil, least, least, 3), "NZP any .. both"},
		{value(7, nil, greatest, greatest, 3), "NZP any .. both"},
		{fact.Of(least), "N =-9223372036854775808 .. even"},
		{fact.Of(greatest), "P =9223372036854775807 .. odd"},
	} {
		if got := text.Value(c.v); got != c.want {
			t.Errorf("got %q, want %q", got, c.want)
		}
	}
}

// P24.1: a Value that isn't Right has an empty text.
func TestValueNotRight(t *testing.T) {
	for _, v := range []fact.Value{
		{}, value(0, nil, 1, 2, 1), value(8, nil, 1, 2, 1), value(15, nil, 1, 2, 1), value(-1, nil, 1, 2, 1),
		value(7, nil, 2, 1, 1), value(7, nil, greatest, least, 1), value(7, nil, 1, 2, 0), value(7, nil, 1, 2, 4), value(7, nil, 1, 2, -1),
		{Sign: 7, Parity: 3, Known: known.Known{N: 1}},
	} {
		if got := text.Value(v); got != "" {
			t.Errorf("%v: got %q", v, got)
		}
	}
	source := rand.New(rand.NewSource(4))
	for range 20000 {
		v := someValue(source)
		switch source.Intn(9) {
		case 0:
			v.Sign = source.Intn(20) - 5
		case 1:
			v.Parity = source.Intn(9) - 3
		case 2:
			v.Span.Lo, v.Span.Hi = v.Span.Hi, v.Span.Lo
		case 3:
			v.Known = known.Known{N: someNumber(source)}
		}
		if got := text.Value(v); got != valueText(v) {
			t.Errorf("%v: got %q, want %q", v, got, valueText(v))
		}
	}
}

// told is a module with a cell, functions that are called and idle, that return and don't, blocks to which nobody comes, and imports; and a Table of it.
func told() (ir.Module, table.Table) {
	back := ir.Block{End: ir.End{Op: ir.Return}}
	m := ir.Module{
		Cells: []int64{5, -6},
		Funcs: []ir.Func{
			{Name: "main", Regs: 2, Blocks: []ir.Block{{Insns: []ir.Insn{{Op: ir.Input, D: 1}}, End: ir.End{Op: ir.Branch, A: 1, To: 1, Else: 1}}, {End: ir.End{Op: ir.Jump}}, back}},
			{Name: "two", Arity: 2, Regs: 2, Blocks: []ir.Block{back}},
			{Name: "idle", Arity: 1, Regs: 1, Blocks: []ir.Block{back}},
			{Name: "odd", Arity: 1, Regs: 1, Blocks: []ir.Block{back}},
		},
		Imports: []ir.Import{{Name: "a", Arity: 1}, {Name: "b"}, {Name: "c", Arity: 2}},
	}
	at := func(live []int, sites [][]int, vals ...fact.Value) table.Block {
		return table.Block{State: state.State{Reached: true, Vals: vals, Sites: sites}, Live: live}
	}
	some := fact.Join(fact.Of(2), fact.Of(4))
	return m, table.Table{
		Cells: []fact.Value{fact.Of(5), fact.Any()},
		Funcs: []table.Func{
			{Sum: flow.Sum{Called: true}, Blocks: []table.Block{at([]int{0, 1}, [][]int{{0, 2}, nil}, fact.Of(0), fact.Any()), at(nil, [][]int{{1}, {0, 1, 2}}, some, fact.Of(-1)), {Live: []int{1}}}},
			{Sum: flow.Sum{Called: true, Args: []fact.Value{fact.Of(1), some}, Returns: true, Result: fact.Of(7)}, Blocks: []table.Block{{}}},
			{Blocks: []table.Block{{}}},
			{Sum: flow.Sum{Returns: true, Result: some}, Blocks: []table.Block{at(nil, [][]int{nil}, fact.Of(3))}},
		},
		Imports: []flow.Sum{{Called: true, Args: []fact.Value{fact.Any()}}, {Called: true, Returns: true, Result: fact.Any()}, {}},
	}
}

const toldText = `cell 0 P =5 5..5 odd
cell 1 NZP any .. both
func main called ends
block 0 reached live 0 1
reg 0 Z =0 0..0 even 0 2
reg 1 NZP any .. both
block 1 reached live
reg 0 P any 2..4 even 1
reg 1 N =-1 -1..-1 odd 0 1 2
block 2 not live 1
func two called P =1 1..1 odd P any 2..4 even returns P =7 7..7 odd
block 0 not live
func idle idle ends
block 0 not live
func odd idle returns P any 2..4 even
block 0 reached live
reg 0 P =3 3..3 odd
import a called NZP any .. both ends
import b called returns NZP any .. both
import c idle ends
`

// wantFacts: of m and x that is told.
func wantFacts(t *testing.T, m ir.Module, x table.Table, want string) {
	t.Helper()
	if got := text.Facts(m, x); got != want {
		t.Errorf("got %q, want %q", got, want)
	}
}

// P24.1: Tables by hand, whole and sparse.
func TestFacts(t *testing.T) {
	m, x := told()
	if e := table.Check(m, x, false); e != nil {
		t.Fatal(e)
	}
	wantFacts(t, m, x, toldText)
	// Block 1 is no cut point.
	sparse := strings.Replace(toldText, "block 1 reached live\nreg 0 P any 2..4 even 1\nreg 1 N =-1 -1..-1 odd 0 1 2\n", "block 1 not live\n", 1)
	sparse = strings.Replace(sparse, "block 2 not live 1\n", "block 2 not live\n", 1)
	wantFacts(t, m, table.Sparse(m, x), sparse)
	wantFacts(t, ir.Module{}, table.Table{}, "")
	wantFacts(t, ir.Module{Cells: []int64{0}}, table.Table{Cells: []fact.Value{fact.Of(0)}}, "cell 0 Z =0 0..0 even\n")
}

// P24.1: what table.Check has something to say of has an empty text.
func TestFactsNotRight(t *testing.T) {
	for about, spoil := range map[string]func(m *ir.Module, x *table.Table){
		"the module":             func(m *ir.Module, _ *table.Table) { m.Funcs[0].Regs = 9 },
		"a cell too few":         func(_ *ir.Module, x *table.Table) { x.Cells = x.Cells[:1] },
		"a function too many":    func(_ *ir.Module, x *table.Table) { x.Funcs = append(x.Funcs, x.Funcs[0]) },
		"no imports":             func(_ *ir.Module, x *table.Table) { x.Imports = nil },
		"a cell":                 func(_ *ir.Module, x *table.Table) { x.Cells[1] = fact.Value{} },
		"an argument":            func(_ *ir.Module, x *table.Table) { x.Funcs[1].Sum.Args[1].Sign = 0 },
		"an argument too few":    func(_ *ir.Module, x *table.Table) { x.Funcs[1].Sum.Args = nil },
		"a result":               func(_ *ir.Module, x *table.Table) { x.Funcs[1].Sum.Result = fact.Value{} },
		"a result of none":       func(_ *ir.Module, x *table.Table) { x.Funcs[2].Sum.Result = fact.Of(1) },
		"a block too few":        func(_ *ir.Module, x *table.Table) { x.Funcs[3].Blocks = nil },
		"a register too few":     func(_ *ir.Module, x *table.Table) { x.Funcs[3].Blocks[0].State.Vals = nil },
		"sites too few":          func(_ *ir.Module, x *table.Table) { x.Funcs[0].Blocks[0].State.Sites = [][]int{nil} },
		"a site that isn't":      func(_ *ir.Module, x *table.Table) { x.Funcs[3].Blocks[0].State.Sites[0] = []int{7} },
		"sites that don't rise":  func(_ *ir.Module, x *table.Table) { x.Funcs[3].Blocks[0].State.Sites[0] = []int{1, 1} },
		"a register that isn't":  func(_ *ir.Module, x *table.Table) { x.Funcs[3].Blocks[0].Live = []int{1} },
		"Values of none":         func(_ *ir.Module, x *table.Table) { x.Funcs[2].Blocks[0].State.Vals = []fact.Value{fact.Of(1)} },
		"an import's argument":   func(_ *ir.Module, x *table.Table) { x.Imports[0].Args[0].Parity = 0 },
		"an import's result":     func(_ *ir.Module, x *table.Table) { x.Imports[1].Result.Parity = 4 },
		"an import with too few": func(_ *ir.Module, x *table.Table) { x.Imports[2].Called = true },
	} {
		m, x := told()
		spoil(&m, &x)
		if got := text.Facts(m, x); table.Check(m, x, false) == nil || got != "" {
			t.Errorf("%s: got %q", about, got)
		}
	}
	m, x := told()
	wantFacts(t, ir.Module{}, x, "")
	wantFacts(t, m, table.Table{}, "")
}

// P24.1, P9: Tables by chance, that were found or not, tell just what is in them.
func TestSomeFacts(t *testing.T) {
	some(t, 5, 1500, func(source *rand.Rand, m ir.Module) {
		x := someTable(t, source, m)
		wantFacts(t, m, x, factsText(m, x))
		other := someModule(t, source)
		if table.Check(other, x, false) != nil {
			wantFacts(t, other, x, "")
		}
	})
}

// P24.4: Facts changes nothing.
func TestFactsMemory(t *testing.T) {
	m, x := told()
	x.Funcs[0].Blocks[0].Live = append(x.Funcs[0].Blocks[0].Live, 77)[:2]
	x.Funcs[1].Sum.Args = append(x.Funcs[1].Sum.Args, fact.Of(77))[:2]
	before := fmt.Sprint(m, x)
	first := text.Facts(m, x)
	if fmt.Sprint(m, x) != before || x.Funcs[0].Blocks[0].Live[:3][2] != 77 || x.Funcs[1].Sum.Args[:3][2] != fact.Of(77) {
		t.Error("Facts changed what was handed in")
	}
	m.Funcs[0].Name, x.Cells[0] = "other", fact.Any()
	if first != toldText {
		t.Error("the answer changed with what was handed in")
	}
	wantFacts(t, m, x, strings.NewReplacer("func main", "func other", "cell 0 P =5 5..5 odd", "cell 0 NZP any .. both").Replace(toldText))
}
