package reload

import (
	"fmt"
	"math"
	"math/rand"
	"testing"

	"averment/bits"
	"averment/fact"
	"averment/fault"
	"averment/flow"
	"averment/ir"
	"averment/live"
	"averment/state"
	"averment/table"
)

// someNumber is often 0: so Branches go both ways.
func someNumber(source *rand.Rand) int64 {
	if source.Intn(6) == 0 {
		return []int64{math.MinInt64, -1 << 32, 1 << 31, math.MaxInt64}[source.Intn(4)]
	}
	return int64(source.Intn(7) - 3)
}

func someNumbers(source *rand.Rand, n int) []int64 {
	var all []int64
	for range n {
		all = append(all, someNumber(source))
	}
	return all
}

// someModule is a well-formed module by chance, with at most so many imports, whose functions often go on to blocks behind.
func someModule(t *testing.T, source *rand.Rand, imports int) ir.Module {
	t.Helper()
	m := ir.Module{Cells: someNumbers(source, 1+source.Intn(2))}
	for f := range 1 + source.Intn(2) {
		arity := source.Intn(3)
		m.Funcs = append(m.Funcs, ir.Func{Name: fmt.Sprint("f", f), Arity: arity, Regs: max(1, arity) + source.Intn(3)})
	}
	if source.Intn(2) == 0 {
		m.Funcs[0].Name, m.Funcs[0].Arity = "main", 0
	}
	for i := range source.Intn(imports + 1) {
		m.Imports = append(m.Imports, ir.Import{Name: fmt.Sprint("g", i), Arity: source.Intn(3)})
	}
	for f := range m.Funcs {
		n := 1 + source.Intn(8)
		for b := range n {
			m.Funcs[f].Blocks = append(m.Funcs[f].Blocks, someBlock(source, m, m.Funcs[f].Regs, b, n))
		}
	}
	if e := ir.Check(m); e != nil {
		t.Fatal(fault.Text(e))
	}
	return m
}

// someBlock is block b of n, of a function with so many registers.
func someBlock(source *rand.Rand, m ir.Module, regs, b, n int) ir.Block {
	var x ir.Block
	for range source.Intn(5) {
		x.Insns = append(x.Insns, someInsn(source, m, regs))
	}
	onward := func() int {
		if b+1 < n && source.Intn(4) > 0 {
			return b + 1 + source.Intn(n-b-1)
		}
		return source.Intn(n)
	}
	switch kind := source.Intn(6); {
	case kind == 0, b == n-1 && kind < 4:
		x.End = back(source.Intn(regs))
	case kind == 1:
		x.End = jump(onward())
	default:
		x.End = branch(source.Intn(regs), onward(), onward())
	}
	return x
}

// someInsn is one with all its fields, often one that gets a number from elsewhere.
func someInsn(source *rand.Rand, m ir.Module, regs int) ir.Insn {
	d, a, b := source.Intn(regs), source.Intn(regs), source.Intn(regs)
	switch source.Intn(9) {
	case 0:
		return number(d, someNumber(source))
	case 1:
		return input(d)
	case 2:
		return output(a)
	case 3:
		return load(d, source.Intn(len(m.Cells)))
	case 4:
		return store(a, source.Intn(len(m.Cells)))
	case 5, 6:
		x := call(d, source.Intn(len(m.Funcs)+len(m.Imports)))
		for range ir.Arity(m, x.B) {
			x.Args = append(x.Args, source.Intn(regs))
		}
		return x
	case 7:
		return ir.Insn{Op: ir.Move + source.Intn(2), D: d, A: a}
	}
	return two(ir.Add+source.Intn(9), d, a, b)
}

// someValue has some numbers.
func someValue(source *rand.Rand) fact.Value {
	v := fact.Of(someNumber(source))
	for range source.Intn(4) {
		v = fact.Join(v, fact.Of(someNumber(source)))
	}
	return v
}

func someValues(source *rand.Rand, n int) []fact.Value {
	var all []fact.Value
	for range n {
		all = append(all, someValue(source))
	}
	return all
}

// someSet is a set below n.
func someSet(source *rand.Rand, n int) set {
	var s set
	often := 1 + source.Intn(4)
	for x := range n {
		if source.Intn(often) == 0 {
			s = append(s, x)
		}
	}
	return s
}

// someSum is one of a function with so many arguments.
func someSum(source *rand.Rand, arity int) flow.Sum {
	var s flow.Sum
	if source.Intn(3) > 0 {
		s.Called, s.Args = true, someValues(source, arity)
	}
	if source.Intn(3) > 0 {
		s.Returns, s.Result = true, someValue(source)
	}
	return s
}

// someTold is what is told at a block of a function with so many registers.
func someTold(source *rand.Rand, regs, sites int) table.Block {
	b := table.Block{Live: someSet(source, regs)}
	if source.Intn(4) > 0 {
		b.State = state.State{Reached: true, Vals: someValues(source, regs)}
		for range regs {
			b.State.Sites = append(b.State.Sites, someSet(source, sites))
		}
	}
	return b
}

// someSeed tells of roots that are Called, of what imports return, and now and then of a block.
func someSeed(source *rand.Rand, m ir.Module) table.Table {
	x := table.None(m)
	for f, fn := range m.Funcs {
		if source.Intn(2) == 0 {
			x.Funcs[f].Sum.Called, x.Funcs[f].Sum.Args = true, someValues(source, fn.Arity)
		}
		for b := range fn.Blocks {
			if source.Intn(8) == 0 {
				x.Funcs[f].Blocks[b] = someTold(source, fn.Regs, ir.Sites(m))
			}
		}
	}
	for i, im := range m.Imports {
		x.Imports[i] = someSum(source, im.Arity)
	}
	return x
}

// grown is x, but it tells so much less that all of it follows.
func grown(t *testing.T, m ir.Module, x table.Table) table.Table {
	t.Helper()
	for range 10000 {
		more := table.Copy(x)
		for c, n := range m.Cells {
			more.Cells[c] = fact.Widen(more.Cells[c], fact.Of(n))
		}
		for f := range m.Funcs {
			growFunc(m, &more, f)
		}
		if table.Equal(more, x) {
			return x
		}
		x = more
	}
	t.Fatal("it grows and grows", m)
	return x
}

// growFunc makes room for what follows from what is told of f.
func growFunc(m ir.Module, x *table.Table, f int) {
	fn, told := m.Funcs[f], &x.Funcs[f]
	if fn.Name == "main" {
		told.Sum.Called = true
	}
	if told.Sum.Called {
		first := &told.Blocks[0].State
		*first = state.Widen(*first, state.Begin(fn.Regs, told.Sum.Args, ir.First(m, f)))
	}
	for b := range told.Blocks {
		out := flow.Block(table.Env(m, *x), f, b, told.Blocks[b].State)
		for _, n := range out.Needs {
			meet(m, x, n)
		}
		for _, e := range out.Edges {
			to := &told.Blocks[e.To].State
			*to = state.Widen(*to, e.State)
		}
		if sum := &told.Sum; out.Returns && !sum.Returns {
			sum.Returns, sum.Result = true, out.Result
		} else if out.Returns {
			sum.Result = fact.Widen(sum.Result, out.Result)
		}
		told.Blocks[b].Live = bits.Union(told.Blocks[b].Live, live.Block(fn, b, live.After(fn, b, livesOf(*told))))
	}
}

// meet makes room for what a Need asks for.
func meet(m ir.Module, x *table.Table, n flow.Need) {
	if n.Store {
		x.Cells[n.To] = fact.Widen(x.Cells[n.To], n.Vals[0])
		return
	}
	sum := &flow.Sum{}
	if n.To < len(m.Funcs) {
		sum = &x.Funcs[n.To].Sum
	} else {
		sum = &x.Imports[n.To-len(m.Funcs)]
	}
	if !sum.Called {
		sum.Called, sum.Args = true, n.Vals
	}
	for i, v := range n.Vals {
		sum.Args[i] = fact.Widen(sum.Args[i], v)
	}
}

func livesOf(told table.Func) [][]int {
	var lives [][]int
	for _, b := range told.Blocks {
		lives = append(lives, b.Live)
	}
	return lives
}

// otherwise tells something else than x in one thing by chance.
func otherwise(source *rand.Rand, m ir.Module, x table.Table) table.Table {
	x = table.Copy(x)
	f := source.Intn(len(m.Funcs))
	told, regs := &x.Funcs[f], m.Funcs[f].Regs
	at := &told.Blocks[source.Intn(len(told.Blocks))]
	r := source.Intn(regs)
	switch kind := source.Intn(9); {
	case kind == 0:
		x.Cells[source.Intn(len(m.Cells))] = someValue(source)
	case kind == 1 && len(m.Imports) > 0:
		i := source.Intn(len(m.Imports))
		x.Imports[i] = someSum(source, m.Imports[i].Arity)
	case kind == 2:
		told.Sum.Called, told.Sum.Args = false, nil
	case kind == 3:
		told.Sum = someSum(source, m.Funcs[f].Arity)
	case kind == 4:
		at.Live = bits.Minus(at.Live, set{r})
	case kind == 5:
		*at = someTold(source, regs, ir.Sites(m))
	case at.State.Reached && kind == 6:
		at.State.Sites[r] = bits.Minus(at.State.Sites[r], someSet(source, ir.Sites(m)))
	case at.State.Reached && kind == 7:
		at.State.Vals[r] = someValue(source)
	case at.State.Reached:
		at.State.Vals[r] = fact.Any()
	}
	return x
}

// some goes through modules by chance, with Tables of which some follow, some nearly do.
func some(t *testing.T, seed int64, n, imports int, each func(source *rand.Rand, m ir.Module, x table.Table)) {
	t.Helper()
	source := rand.New(rand.NewSource(seed))
	for range n {
		m := someModule(t, source, imports)
		x := grown(t, m, someSeed(source, m))
		each(source, m, x)
		for range 4 {
			x = otherwise(source, m, x)
			each(source, m, x)
		}
	}
}
