package merge_test

import (
	"math"
	"math/rand"
	"slices"
	"sort"
	"testing"

	"averment/bits"
	"averment/fact"
	"averment/fault"
	"averment/flow"
	"averment/ir"
	"averment/link"
	"averment/live"
	"averment/solve"
	"averment/state"
	"averment/table"
)

// someNumber is often 0: so Branches go both ways.
func someNumber(source *rand.Rand) int64 {
	if source.Intn(6) == 0 {
		return []int64{math.MinInt64, -1 << 32, 1 << 31, math.MaxInt64}[source.Intn(4)]
	}
	return int64(source.Intn(7) - 3)
}

func someNumbers(source *rand.Rand, n int) []int64 {
	var all []int64
	for range n {
		all = append(all, someNumber(source))
	}
	return all
}

// someValue has some numbers.
func someValue(source *rand.Rand) fact.Value {
	v := fact.Of(someNumber(source))
	for range source.Intn(4) {
		v = fact.Join(v, fact.Of(someNumber(source)))
	}
	return v
}

func someValues(source *rand.Rand, n int) []fact.Value {
	var all []fact.Value
	for range n {
		all = append(all, someValue(source))
	}
	return all
}

// someSum is one of a function with so many arguments.
func someSum(source *rand.Rand, arity int) flow.Sum {
	var s flow.Sum
	if source.Intn(3) > 0 {
		s.Called, s.Args = true, someValues(source, arity)
	}
	if source.Intn(3) > 0 {
		s.Returns, s.Result = true, someValue(source)
	}
	return s
}

// names are those of all functions; how many arguments each takes goes by its place.
var names = []string{"main", "b", "a9", "zz", "g10", "g9", "a", "m"}

// someModules are so many well-formed modules, that have functions for one another; open: some import what none of them has.
func someModules(t *testing.T, source *rand.Rand, n int, open bool) []ir.Module {
	t.Helper()
	own, used := make([][]string, n), []string(nil)
	for _, i := range source.Perm(len(names)) {
		if owner := source.Intn(n + 1); owner < n {
			own[owner] = append(own[owner], names[i])
			used = append(used, names[i])
		} else if open {
			used = append(used, names[i])
		}
	}
	var all []ir.Module
	for i := range n {
		m := someModule(source, own[i], used)
		if e := ir.Check(m); e != nil {
			t.Fatal(fault.Text(e), m)
		}
		all = append(all, m)
	}
	return all
}

// someModule has functions of its own names, and imports some others of those that are used.
func someModule(source *rand.Rand, own, used []string) ir.Module {
	m := ir.Module{Cells: someNumbers(source, source.Intn(3))}
	for _, name := range own {
		arity := slices.Index(names, name) % 3
		m.Funcs = append(m.Funcs, ir.Func{Name: name, Arity: arity, Regs: max(1, arity) + source.Intn(3)})
	}
	for _, name := range used {
		if source.Intn(3) > 0 && !slices.Contains(own, name) {
			m.Imports = append(m.Imports, ir.Import{Name: name, Arity: slices.Index(names, name) % 3})
		}
	}
	sort.Slice(m.Imports, func(i, j int) bool { return m.Imports[i].Name < m.Imports[j].Name })
	for f := range m.Funcs {
		n := 1 + source.Intn(5)
		for b := range n {
			m.Funcs[f].Blocks = append(m.Funcs[f].Blocks, someBlock(source, m, m.Funcs[f].Regs, b, n))
		}
	}
	return m
}

// someBlock is block b of n, of a function with so many registers.
func someBlock(source *rand.Rand, m ir.Module, regs, b, n int) ir.Block {
	var x ir.Block
	for range source.Intn(5) {
		x.Insns = append(x.Insns, someInsn(source, m, regs))
	}
	onward := func() int {
		if b+1 < n && source.Intn(4) > 0 {
			return b + 1 + source.Intn(n-b-1)
		}
		return source.Intn(n)
	}
	switch kind := source.Intn(6); {
	case kind == 0, b == n-1 && kind < 4:
		x.End = back(source.Intn(regs))
	case kind == 1:
		x.End = jump(onward())
	default:
		x.End = branch(source.Intn(regs), onward(), onward())
	}
	return x
}

// someInsn is often a call.
func someInsn(source *rand.Rand, m ir.Module, regs int) ir.Insn {
	d, a, b := source.Intn(regs), source.Intn(regs), source.Intn(regs)
	kind := source.Intn(9)
	switch {
	case kind == 0:
		return number(d, someNumber(source))
	case kind == 1:
		return input(d)
	case kind == 2:
		return output(a)
	case kind == 3 && len(m.Cells) > 0:
		return load(d, source.Intn(len(m.Cells)))
	case kind == 4 && len(m.Cells) > 0:
		return store(a, source.Intn(len(m.Cells)))
	case kind == 5 || kind == 6:
		x := call(d, source.Intn(len(m.Funcs)+len(m.Imports)))
		for range ir.Arity(m, x.B) {
			x.Args = append(x.Args, source.Intn(regs))
		}
		return x
	case kind == 7:
		return ir.Insn{Op: ir.Move + source.Intn(2), D: d, A: a}
	}
	return two(ir.Add+source.Intn(9), d, a, b)
}

// linked is the module of all of these.
func linked(t *testing.T, all ...ir.Module) ir.Module {
	t.Helper()
	var m ir.Module
	for _, next := range all {
		both, e := link.Link(m, next)
		if e != nil {
			t.Fatal(fault.Text(e), all)
		}
		m = both
	}
	return m
}

// solved is a Table that is found.
func solved(t *testing.T, m ir.Module, roots ...int) table.Table {
	t.Helper()
	x, _, e := solve.Solve(m, roots, solve.Bound(m))
	if e != nil {
		t.Fatal(fault.Text(e), m)
	}
	return x
}

// someSolved is a Table of m with functions that may be called from outside by chance: none, some, or all.
func someSolved(t *testing.T, source *rand.Rand, m ir.Module) table.Table {
	t.Helper()
	var roots []int
	often := source.Intn(4)
	for f := range m.Funcs {
		if often == 3 || source.Intn(4) < often {
			roots = append(roots, f)
		}
	}
	return solved(t, m, roots...)
}

// apiece takes what is told of the module that all come to apart, to each one what is told of it.
func apiece(t *testing.T, all []ir.Module, x table.Table) []table.Table {
	t.Helper()
	whole := linked(t, all...)
	sums := table.Env(whole, x).Sums
	var parts []table.Table
	funcs, cells, sites := 0, 0, 0
	for _, m := range all {
		part := table.Copy(table.Table{Cells: x.Cells[cells : cells+len(m.Cells)], Funcs: x.Funcs[funcs : funcs+len(m.Funcs)]})
		for _, f := range part.Funcs {
			for b := range f.Blocks {
				f.Blocks[b].State = state.Shift(f.Blocks[b].State, -sites)
			}
		}
		for _, im := range m.Imports {
			s := sums[ir.Find(whole, im.Name)]
			s.Args = slices.Clone(s.Args)
			part.Imports = append(part.Imports, s)
		}
		funcs, cells, sites = funcs+len(m.Funcs), cells+len(m.Cells), sites+ir.Sites(m)
		parts = append(parts, part)
	}
	return parts
}

// someTold are Tables of all modules, that follow: found together and taken apart, or each by itself; now and then imports are told otherwise.
func someTold(t *testing.T, source *rand.Rand, all []ir.Module) []table.Table {
	t.Helper()
	parts := make([]table.Table, len(all))
	if source.Intn(3) > 0 {
		parts = apiece(t, all, someSolved(t, source, linked(t, all...)))
	} else {
		for i, m := range all {
			parts[i] = someSolved(t, source, m)
		}
	}
	for i, m := range all {
		for j, im := range m.Imports {
			switch source.Intn(12) {
			case 0:
				parts[i].Imports[j] = someSum(source, im.Arity)
			case 1:
				parts[i].Imports[j].Returns, parts[i].Imports[j].Result = true, fact.Any()
			}
		}
		parts[i] = grown(t, m, parts[i])
	}
	return parts
}

// grown is x, but it tells so much less that all of it follows.
func grown(t *testing.T, m ir.Module, x table.Table) table.Table {
	t.Helper()
	for range 10000 {
		more := table.Copy(x)
		for f := range m.Funcs {
			growFunc(m, &more, f)
		}
		if table.Equal(more, x) {
			return x
		}
		x = more
	}
	t.Fatal("it grows and grows", m)
	return x
}

// growFunc makes room for what follows from what is told of f.
func growFunc(m ir.Module, x *table.Table, f int) {
	fn, told := m.Funcs[f], &x.Funcs[f]
	if told.Sum.Called {
		first := &told.Blocks[0].State
		*first = state.Widen(*first, state.Begin(fn.Regs, told.Sum.Args, ir.First(m, f)))
	}
	for b := range told.Blocks {
		out := flow.Block(table.Env(m, *x), f, b, told.Blocks[b].State)
		for _, n := range out.Needs {
			meet(m, x, n)
		}
		for _, e := range out.Edges {
			to := &told.Blocks[e.To].State
			*to = state.Widen(*to, e.State)
		}
		if sum := &told.Sum; out.Returns && !sum.Returns {
			sum.Returns, sum.Result = true, out.Result
		} else if out.Returns {
			sum.Result = fact.Widen(sum.Result, out.Result)
		}
		var lives [][]int
		for _, other := range told.Blocks {
			lives = append(lives, other.Live)
		}
		told.Blocks[b].Live = bits.Union(told.Blocks[b].Live, live.Block(fn, b, live.After(fn, b, lives)))
	}
}

// meet makes room for what a Need asks for.
func meet(m ir.Module, x *table.Table, n flow.Need) {
	if n.Store {
		x.Cells[n.To] = fact.Widen(x.Cells[n.To], n.Vals[0])
		return
	}
	var sum *flow.Sum
	if n.To < len(m.Funcs) {
		sum = &x.Funcs[n.To].Sum
	} else {
		sum = &x.Imports[n.To-len(m.Funcs)]
	}
	if !sum.Called {
		sum.Called, sum.Args = true, n.Vals
	}
	for i, v := range n.Vals {
		sum.Args[i] = fact.Widen(sum.Args[i], v)
	}
}

// some goes through modules by chance, so many at a time, with Tables that follow.
func some(t *testing.T, seed int64, times, n int, open bool, each func(source *rand.Rand, all []ir.Module, told []table.Table)) {
	t.Helper()
	source := rand.New(rand.NewSource(seed))
	for range times {
		all := someModules(t, source, n, open)
		each(source, all, someTold(t, source, all))
	}
}
