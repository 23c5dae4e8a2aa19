package table

import (
	"fmt"
	"math"
	"math/rand"
	"testing"

	"averment/cfg"
	"averment/fact"
	"averment/flow"
	"averment/ir"
	"averment/known"
	"averment/span"
	"averment/state"
)

// edgeNumbers are numbers at which reckoning may go wrong.
var edgeNumbers = []int64{math.MinInt64, math.MinInt64 + 1, -1 << 32, -7, 7, 1 << 31, math.MaxInt64 - 1, math.MaxInt64}

func someNumber(source *rand.Rand) int64 {
	if source.Intn(4) == 0 {
		return edgeNumbers[source.Intn(len(edgeNumbers))]
	}
	return int64(source.Intn(7) - 3)
}

// someModule is a well-formed module by chance, now and then without anything.
func someModule(t *testing.T, source *rand.Rand) ir.Module {
	t.Helper()
	var m ir.Module
	for range source.Intn(4) {
		m.Cells = append(m.Cells, someNumber(source))
	}
	for f := range source.Intn(4) {
		arity := source.Intn(5)
		fn := ir.Func{Name: fmt.Sprint("f", f), Arity: arity, Regs: max(1, arity) + source.Intn(4)}
		n := 1 + source.Intn(6)
		for range n {
			fn.Blocks = append(fn.Blocks, someBlock(source, fn.Regs, n))
		}
		m.Funcs = append(m.Funcs, fn)
	}
	for i := range source.Intn(4) {
		m.Imports = append(m.Imports, ir.Import{Name: fmt.Sprint("g", i), Arity: source.Intn(5)})
	}
	if e := ir.Check(m); e != nil {
		t.Fatal(e)
	}
	return m
}

// someBlock is one of a function with so many registers and blocks.
func someBlock(source *rand.Rand, regs, blocks int) ir.Block {
	var b ir.Block
	for range source.Intn(4) {
		x := ir.Insn{Op: ir.Add, D: source.Intn(regs), A: source.Intn(regs), B: source.Intn(regs)}
		if source.Intn(3) == 0 {
			x = ir.Insn{Op: ir.Output, A: source.Intn(regs)}
		}
		b.Insns = append(b.Insns, x)
	}
	switch source.Intn(3) {
	case 0:
		b.End = ir.End{Op: ir.Jump, To: source.Intn(blocks)}
	case 1:
		b.End = ir.End{Op: ir.Branch, A: source.Intn(regs), To: source.Intn(blocks), Else: source.Intn(blocks)}
	default:
		b.End = ir.End{Op: ir.Return, A: source.Intn(regs)}
	}
	return b
}

// someValue is Right, also such as no number has.
func someValue(source *rand.Rand) fact.Value {
	v := fact.Value{Sign: 1 + source.Intn(7), Known: known.Any(), Span: span.Of(someNumber(source)), Parity: 1 + source.Intn(3)}
	if source.Intn(3) == 0 {
		v.Known = known.Of(someNumber(source))
	}
	for range source.Intn(3) {
		v.Span = span.Join(v.Span, span.Of(someNumber(source)))
	}
	return v
}

func someValues(source *rand.Rand, n int) []fact.Value {
	var all []fact.Value
	for range n {
		all = append(all, someValue(source))
	}
	return all
}

// someSet is a set below n.
func someSet(source *rand.Rand, n int) []int {
	var set []int
	often := 1 + source.Intn(4)
	for x := range n {
		if source.Intn(often) == 0 {
			set = append(set, x)
		}
	}
	return set
}

// someSum is one of a function with so many arguments.
func someSum(source *rand.Rand, arity int) flow.Sum {
	var s flow.Sum
	if source.Intn(3) > 0 {
		s.Called, s.Args = true, someValues(source, arity)
	}
	if source.Intn(3) > 0 {
		s.Returns, s.Result = true, someValue(source)
	}
	return s
}

// someState is one of so many registers, now and then not Reached.
func someState(source *rand.Rand, regs, sites int) state.State {
	if source.Intn(4) == 0 {
		return state.None()
	}
	s := state.State{Reached: true, Vals: someValues(source, regs)}
	for range regs {
		s.Sites = append(s.Sites, someSet(source, sites))
	}
	return s
}

// someTable is one of m in normal form.
func someTable(t *testing.T, source *rand.Rand, m ir.Module) Table {
	t.Helper()
	x := Table{Cells: someValues(source, len(m.Cells))}
	for _, f := range m.Funcs {
		told := Func{Sum: someSum(source, f.Arity)}
		for range f.Blocks {
			told.Blocks = append(told.Blocks, Block{State: someState(source, f.Regs, ir.Sites(m)), Live: someSet(source, f.Regs)})
		}
		x.Funcs = append(x.Funcs, told)
	}
	for _, im := range m.Imports {
		x.Imports = append(x.Imports, someSum(source, im.Arity))
	}
	wantRight(t, "a Table by chance", m, x, false)
	return x
}

// some goes through modules and Tables in normal form, by chance.
func some(t *testing.T, n int, each func(source *rand.Rand, m ir.Module, x Table)) {
	t.Helper()
	source := rand.New(rand.NewSource(17))
	for range n {
		m := someModule(t, source)
		each(source, m, someTable(t, source, m))
	}
}

// P17.2: Sparse has nothing to say to Check, is within t, and is t at cut points.
func TestSparseIsWithin(t *testing.T) {
	some(t, 2000, func(source *rand.Rand, m ir.Module, x Table) {
		s := Sparse(m, x)
		wantRight(t, "Sparse", m, s, true)
		wantRight(t, "Sparse, as whole", m, s, false)
		if !Within(s, x) || Within(x, s) != Equal(x, s) {
			t.Fatal("Sparse isn't within", m, x)
		}
		for f, fn := range m.Funcs {
			for _, b := range cfg.Cuts(fn) {
				if fmt.Sprint(s.Funcs[f].Blocks[b]) != fmt.Sprint(x.Funcs[f].Blocks[b]) {
					t.Fatal("a cut point", m, f, b)
				}
				s.Funcs[f].Blocks[b] = Block{}
			}
			for _, b := range s.Funcs[f].Blocks {
				if fmt.Sprint(b) != fmt.Sprint(Block{}) {
					t.Fatal("no cut point", m, f, b)
				}
			}
		}
	})
}

// P17.2: None is within all that tell of cells what they begin with; all are within Any.
func TestNoneAndAnyAreTheEnds(t *testing.T) {
	some(t, 2000, func(source *rand.Rand, m ir.Module, x Table) {
		none, top := None(m), Any(m)
		wantRight(t, "None", m, none, true)
		wantRight(t, "Any", m, top, false)
		if !Within(x, top) || !Within(none, top) || Within(top, x) != Equal(top, x) {
			t.Fatal("Any", m, x)
		}
		begins := true
		for c, v := range x.Cells {
			begins = begins && fact.Has(v, m.Cells[c])
		}
		if Within(none, x) != begins {
			t.Fatal("None", m, x)
		}
		for c, v := range x.Cells {
			x.Cells[c] = fact.Join(v, fact.Of(m.Cells[c]))
		}
		if !Within(none, x) {
			t.Fatal("None, once all cells have what they begin with", m, x)
		}
	})
}

// P17.1: Within of one and another by chance: part by part, as the chapter says it.
func TestWithinByParts(t *testing.T) {
	some(t, 2000, func(source *rand.Rand, m ir.Module, x Table) {
		y := someTable(t, source, m)
		// Two by chance are hardly ever within each other: now and then they are made so.
		for f := range x.Funcs {
			for b := range x.Funcs[f].Blocks {
				s, o := &x.Funcs[f].Blocks[b], y.Funcs[f].Blocks[b]
				if source.Intn(20) > 0 {
					*s = Block{State: state.Copy(o.State), Live: someSet(source, len(o.Live))}
				}
			}
			if source.Intn(20) > 0 {
				x.Funcs[f].Sum = copySum(y.Funcs[f].Sum)
			}
		}
		for i := range x.Imports {
			if source.Intn(20) > 0 {
				x.Imports[i] = copySum(y.Imports[i])
			}
		}
		if source.Intn(20) > 0 {
			copy(x.Cells, y.Cells)
		}
		if got, want := Within(x, y), byParts(m, x, y); got != want {
			t.Fatalf("got %v, want %v: %v, %v", got, want, x, y)
		}
		if Equal(x, y) != (byParts(m, x, y) && byParts(m, y, x)) {
			t.Fatal("Equal", x, y)
		}
	})
}

// byParts is Within of two that are of one module.
func byParts(m ir.Module, x, y Table) bool {
	for c := range m.Cells {
		if !fact.Within(x.Cells[c], y.Cells[c]) {
			return false
		}
	}
	a, b := Env(m, x).Sums, Env(m, y).Sums
	for f := range a {
		if a[f].Called && !b[f].Called || a[f].Returns && !b[f].Returns {
			return false
		}
		for i, v := range a[f].Args {
			if !fact.Within(v, b[f].Args[i]) {
				return false
			}
		}
		if a[f].Returns && !fact.Within(a[f].Result, b[f].Result) {
			return false
		}
	}
	for f := range m.Funcs {
		for i := range m.Funcs[f].Blocks {
			p, q := x.Funcs[f].Blocks[i], y.Funcs[f].Blocks[i]
			if !state.Within(p.State, q.State) {
				return false
			}
			for _, r := range p.Live {
				if !contains(q.Live, r) {
					return false
				}
			}
		}
	}
	return true
}

func contains(list []int, x int) bool {
	for _, y := range list {
		if x == y {
			return true
		}
	}
	return false
}
