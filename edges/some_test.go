package edges

import (
	"fmt"
	"math"
	"math/rand"
	"testing"

	"averment/bits"
	"averment/fact"
	"averment/fault"
	"averment/flow"
	"averment/ir"
	"averment/known"
	"averment/live"
	"averment/span"
	"averment/state"
	"averment/table"
)

// edgeNumbers are numbers at which reckoning may go wrong.
var edgeNumbers = []int64{math.MinInt64, math.MinInt64 + 1, -1 << 32, -7, 7, 1 << 31, math.MaxInt64 - 1, math.MaxInt64}

// someNumber is often 0: so Branches go both ways.
func someNumber(source *rand.Rand) int64 {
	if source.Intn(5) == 0 {
		return edgeNumbers[source.Intn(len(edgeNumbers))]
	}
	return int64(source.Intn(7) - 3)
}

func someNumbers(source *rand.Rand, n int) []int64 {
	var all []int64
	for range n {
		all = append(all, someNumber(source))
	}
	return all
}

// someModule is a well-formed module by chance, with at most so many imports; it often begins with main.
func someModule(t *testing.T, source *rand.Rand, imports int) ir.Module {
	t.Helper()
	m := ir.Module{Cells: someNumbers(source, 1+source.Intn(3))}
	for f := range 1 + source.Intn(3) {
		arity := source.Intn(5)
		m.Funcs = append(m.Funcs, ir.Func{Name: fmt.Sprint("f", f), Arity: arity, Regs: max(1, arity) + source.Intn(4)})
	}
	if source.Intn(4) > 0 {
		main := &m.Funcs[source.Intn(len(m.Funcs))]
		main.Name, main.Arity = "main", 0
	}
	for i := range source.Intn(imports + 1) {
		m.Imports = append(m.Imports, ir.Import{Name: fmt.Sprint("g", i), Arity: source.Intn(5)})
	}
	for f := range m.Funcs {
		n := 1 + source.Intn(5)
		for range n {
			m.Funcs[f].Blocks = append(m.Funcs[f].Blocks, someBlock(source, m, m.Funcs[f].Regs, n))
		}
	}
	if e := ir.Check(m); e != nil {
		t.Fatal(fault.Text(e))
	}
	return m
}

// someBlock is a block of a function with so many registers and blocks.
func someBlock(source *rand.Rand, m ir.Module, regs, blocks int) ir.Block {
	var b ir.Block
	for range source.Intn(6) {
		b.Insns = append(b.Insns, someInsn(source, m, regs))
	}
	switch source.Intn(4) {
	case 0:
		b.End = jump(source.Intn(blocks))
	case 1:
		b.End = back(source.Intn(regs))
	default:
		b.End = branch(source.Intn(regs), source.Intn(blocks), source.Intn(blocks))
	}
	return b
}

func someInsn(source *rand.Rand, m ir.Module, regs int) ir.Insn {
	x := ir.Insn{Op: 1 + source.Intn(17)}
	if _, sets := ir.Sets(x); sets {
		x.D = source.Intn(regs)
	}
	switch {
	case x.Op == ir.Const:
		x.N = someNumber(source)
	case x.Op == ir.Load || x.Op == ir.Store:
		x.B = source.Intn(len(m.Cells))
	case x.Op == ir.Call:
		x.B = source.Intn(len(m.Funcs) + len(m.Imports))
		for range ir.Arity(m, x.B) {
			x.Args = append(x.Args, source.Intn(regs))
		}
	case x.Op >= ir.Add && x.Op <= ir.Same:
		x.B = source.Intn(regs)
	}
	if x.Op >= ir.Move && x.Op <= ir.Same || x.Op == ir.Store || x.Op == ir.Output {
		x.A = source.Intn(regs)
	}
	return x
}

// someValue is Right, also such as no number has.
func someValue(source *rand.Rand) fact.Value {
	v := fact.Of(someNumber(source))
	for range source.Intn(3) {
		v = fact.Join(v, fact.Of(someNumber(source)))
	}
	switch source.Intn(8) {
	case 0:
		v.Sign = 1 + source.Intn(7)
	case 1:
		v.Known = known.Of(someNumber(source))
	case 2:
		v.Known, v.Span = known.Any(), span.Of(someNumber(source))
	case 3:
		v.Parity = 1 + source.Intn(3)
	}
	return v
}

func someValues(source *rand.Rand, n int) []fact.Value {
	var all []fact.Value
	for range n {
		all = append(all, someValue(source))
	}
	return all
}

// someSet is a set below n of a few, or of nearly all.
func someSet(source *rand.Rand, n int) set {
	var s set
	often, wanted := 1+source.Intn(6), source.Intn(2) == 0
	for x := range n {
		if (source.Intn(often) == 0) == wanted {
			s = append(s, x)
		}
	}
	return s
}

// someSum is one of a function with so many arguments.
func someSum(source *rand.Rand, arity int) flow.Sum {
	var s flow.Sum
	if source.Intn(3) > 0 {
		s.Called, s.Args = true, someValues(source, arity)
	}
	if source.Intn(3) > 0 {
		s.Returns, s.Result = true, someValue(source)
	}
	return s
}

// someState is one of so many registers, now and then not Reached.
func someState(source *rand.Rand, regs, sites int) state.State {
	if source.Intn(4) == 0 {
		return state.None()
	}
	s := state.State{Reached: true, Vals: someValues(source, regs)}
	for range regs {
		s.Sites = append(s.Sites, someSet(source, sites))
	}
	return s
}

// someTable is one of m in normal form, of which hardly anything follows.
func someTable(source *rand.Rand, m ir.Module) table.Table {
	x := table.Table{Cells: someValues(source, len(m.Cells))}
	for _, f := range m.Funcs {
		told := table.Func{Sum: someSum(source, f.Arity)}
		for range f.Blocks {
			told.Blocks = append(told.Blocks, table.Block{State: someState(source, f.Regs, ir.Sites(m)), Live: someSet(source, f.Regs)})
		}
		x.Funcs = append(x.Funcs, told)
	}
	for _, im := range m.Imports {
		x.Imports = append(x.Imports, someSum(source, im.Arity))
	}
	return x
}

// someSeed is a Table that tells of roots that are Called, of what imports return, and of little else.
func someSeed(source *rand.Rand, m ir.Module) table.Table {
	x := table.None(m)
	some := someTable(source, m)
	for f := range x.Funcs {
		if source.Intn(2) == 0 {
			x.Funcs[f].Sum.Called, x.Funcs[f].Sum.Args = some.Funcs[f].Sum.Called, some.Funcs[f].Sum.Args
		}
		for b := range x.Funcs[f].Blocks {
			if source.Intn(6) == 0 {
				x.Funcs[f].Blocks[b] = some.Funcs[f].Blocks[b]
			}
		}
	}
	if source.Intn(4) > 0 {
		x.Imports = some.Imports
	}
	return x
}

// grown is x, but it tells so much less that all of it follows.
func grown(t *testing.T, m ir.Module, x table.Table) table.Table {
	t.Helper()
	for range 10000 {
		more := table.Copy(x)
		growOnce(m, &more)
		if table.Equal(more, x) {
			return x
		}
		x = more
	}
	t.Fatal("it grows and grows", m)
	return x
}

// growOnce makes room in x for what follows from it.
func growOnce(m ir.Module, x *table.Table) {
	for c, n := range m.Cells {
		x.Cells[c] = fact.Widen(x.Cells[c], fact.Of(n))
	}
	for f, fn := range m.Funcs {
		told := &x.Funcs[f]
		if fn.Name == "main" && fn.Arity == 0 {
			told.Sum.Called = true
		}
		if told.Sum.Called {
			first := &told.Blocks[0].State
			*first = state.Widen(*first, state.Begin(fn.Regs, told.Sum.Args, ir.First(m, f)))
		}
		var lives [][]int
		for _, b := range told.Blocks {
			lives = append(lives, b.Live)
		}
		for b := range told.Blocks {
			growBehind(m, x, f, flow.Block(table.Env(m, *x), f, b, told.Blocks[b].State))
			told.Blocks[b].Live = bits.Union(lives[b], live.Block(fn, b, live.After(fn, b, lives)))
		}
	}
}

// growBehind makes room for what follows from a block of f.
func growBehind(m ir.Module, x *table.Table, f int, out flow.Out) {
	for _, n := range out.Needs {
		if n.Store {
			x.Cells[n.To] = fact.Widen(x.Cells[n.To], n.Vals[0])
			continue
		}
		sum := sumOf(m, x, n.To)
		if !sum.Called {
			sum.Called, sum.Args = true, n.Vals
		}
		for i, v := range n.Vals {
			sum.Args[i] = fact.Widen(sum.Args[i], v)
		}
	}
	for _, e := range out.Edges {
		to := &x.Funcs[f].Blocks[e.To].State
		*to = state.Widen(*to, e.State)
	}
	if sum := &x.Funcs[f].Sum; out.Returns {
		if !sum.Returns {
			sum.Returns, sum.Result = true, out.Result
		}
		sum.Result = fact.Widen(sum.Result, out.Result)
	}
}

// sumOf is what x tells of function or import f.
func sumOf(m ir.Module, x *table.Table, f int) *flow.Sum {
	if f < len(m.Funcs) {
		return &x.Funcs[f].Sum
	}
	return &x.Imports[f-len(m.Funcs)]
}

// tightened tells more than x in one thing by chance.
func tightened(source *rand.Rand, m ir.Module, x table.Table) table.Table {
	x = table.Copy(x)
	f := source.Intn(len(m.Funcs))
	told := &x.Funcs[f]
	block := &told.Blocks[source.Intn(len(told.Blocks))]
	r := source.Intn(m.Funcs[f].Regs)
	switch kind := source.Intn(9); {
	case kind == 0:
		c := source.Intn(len(m.Cells))
		x.Cells[c] = narrower(source, x.Cells[c])
	case kind == 1 && len(told.Sum.Args) > 0:
		i := source.Intn(len(told.Sum.Args))
		told.Sum.Args[i] = narrower(source, told.Sum.Args[i])
	case kind == 2 && told.Sum.Returns:
		told.Sum.Result = narrower(source, told.Sum.Result)
	case kind == 3 && source.Intn(2) == 0:
		told.Sum.Called, told.Sum.Args = false, nil
	case kind == 3:
		told.Sum.Returns, told.Sum.Result = false, fact.Value{}
	case kind == 4 && len(m.Imports) > 0:
		i := source.Intn(len(m.Imports))
		x.Imports[i] = someSum(source, m.Imports[i].Arity)
	case kind == 5:
		block.Live = bits.Minus(block.Live, set{r})
	case kind == 6 && block.State.Reached:
		block.State.Vals[r] = narrower(source, block.State.Vals[r])
	case kind == 7 && block.State.Reached:
		block.State.Sites[r] = bits.Minus(block.State.Sites[r], someSet(source, ir.Sites(m)))
	case kind == 8:
		block.State = someState(source, m.Funcs[f].Regs, ir.Sites(m))
	}
	return x
}

// narrower is within v, in one of the four.
func narrower(source *rand.Rand, v fact.Value) fact.Value {
	w := someValue(source)
	n, ok := fact.Meet(v, w)
	if ok && source.Intn(2) == 0 {
		return n
	}
	switch source.Intn(4) {
	case 0:
		if v.Sign&w.Sign != 0 {
			v.Sign &= w.Sign
		}
	case 1:
		if !v.Known.Is {
			v.Known = w.Known
		}
	case 2:
		if s, ok := span.Meet(v.Span, w.Span); ok {
			v.Span = s
		}
	case 3:
		if v.Parity&w.Parity != 0 {
			v.Parity &= w.Parity
		}
	}
	return v
}

// some goes through modules by chance, with Tables of which some follow, some nearly do, some don't at all.
func some(t *testing.T, seed int64, n, imports int, each func(source *rand.Rand, m ir.Module, x table.Table)) {
	t.Helper()
	source := rand.New(rand.NewSource(seed))
	for range n {
		m := someModule(t, source, imports)
		x := grown(t, m, someSeed(source, m))
		each(source, m, x)
		for range 4 {
			x = tightened(source, m, x)
			each(source, m, x)
		}
		each(source, m, someTable(source, m))
	}
}
