package link_test

import (
	"fmt"
	"math/rand"
	"sort"
	"testing"

	"averment/fault"
	"averment/ir"
	"averment/link"
)

// model is what two well-formed modules come to, as the chapter says it: each name with a list of those that have it.
type model struct {
	a, b   ir.Module
	arity  map[string][]int
	number map[string]int
	m      ir.Module
}

// modelled is the module of both, or the text of what stands against it.
func modelled(a, b ir.Module) (ir.Module, string) {
	w := &model{a: a, b: b, number: make(map[string]int)}
	if wrong := w.wrong(); wrong != "" {
		return ir.Module{}, wrong
	}
	w.m.Cells = append(append([]int64{}, a.Cells...), b.Cells...)
	for _, f := range append(append([]ir.Func{}, a.Funcs...), b.Funcs...) {
		w.number[f.Name] = len(w.number)
	}
	open := make(map[string]int)
	for _, im := range append(append([]ir.Import{}, a.Imports...), b.Imports...) {
		if _, has := w.number[im.Name]; !has {
			open[im.Name] = im.Arity
		}
	}
	for name, arity := range open {
		w.m.Imports = append(w.m.Imports, ir.Import{Name: name, Arity: arity})
	}
	sort.Slice(w.m.Imports, func(i, j int) bool { return w.m.Imports[i].Name < w.m.Imports[j].Name })
	for _, im := range w.m.Imports {
		w.number[im.Name] = len(w.number)
	}
	if len(w.m.Cells) > 16 || len(w.number) > 24 {
		return ir.Module{}, "size"
	}
	w.functions(a, 0)
	w.functions(b, len(a.Cells))
	return w.m, "ok"
}

// wrong is what stands against it but for the sizes: nothing, if there is none.
func (w *model) wrong() string {
	arities := make(map[string]int)
	for _, f := range w.a.Funcs {
		arities[f.Name] = f.Arity
	}
	for i, f := range w.b.Funcs {
		if _, has := arities[f.Name]; has {
			return fmt.Sprint(i, " twice")
		}
	}
	others := make(map[string]int)
	for _, f := range w.b.Funcs {
		others[f.Name] = f.Arity
	}
	for _, im := range w.b.Imports {
		others[im.Name] = im.Arity
	}
	for i, im := range w.a.Imports {
		if n, has := others[im.Name]; has && n != im.Arity {
			return fmt.Sprint("0.", len(w.a.Funcs)+i, " clash")
		}
	}
	for i, im := range w.b.Imports {
		if n, has := arities[im.Name]; has && n != im.Arity {
			return fmt.Sprint("1.", len(w.b.Funcs)+i, " clash")
		}
	}
	return ""
}

// functions appends those of from, whose cells have so many ahead.
func (w *model) functions(from ir.Module, cells int) {
	for _, f := range from.Funcs {
		other := ir.Func{Name: f.Name, Arity: f.Arity, Regs: f.Regs}
		for _, b := range f.Blocks {
			laid := ir.Block{End: b.End}
			for _, x := range b.Insns {
				laid.Insns = append(laid.Insns, w.insn(from, x, cells))
			}
			other.Blocks = append(other.Blocks, laid)
		}
		w.m.Funcs = append(w.m.Funcs, other)
	}
}

func (w *model) insn(from ir.Module, x ir.Insn, cells int) ir.Insn {
	if x.Op == ir.Load || x.Op == ir.Store {
		x.B += cells
	}
	if x.Op == ir.Call && x.B < len(from.Funcs) {
		x.B = w.number[from.Funcs[x.B].Name]
	} else if x.Op == ir.Call {
		x.B = w.number[from.Imports[x.B-len(from.Funcs)].Name]
	}
	return x
}

// P22.1: modules by chance: the module that comes about, or the error; it is well-formed.
func TestModel(t *testing.T) {
	source := rand.New(rand.NewSource(1))
	kinds := make(map[string]int)
	for range 6000 {
		all := someModules(t, source, 2, true)
		m, e := link.Link(all[0], all[1])
		want, text := modelled(all[0], all[1])
		if fault.Text(e) != text || !ir.Equal(m, want) {
			t.Fatal(all, "got", m, fault.Text(e), "want", want, text)
		}
		if wrong := ir.Check(m); wrong != nil {
			t.Fatal("not well-formed", all, m, fault.Text(wrong))
		}
		if path := fault.Path(e); len(path) == 2 {
			kinds[fmt.Sprint(fault.Kind(e), " at ", path[0])]++
		} else {
			kinds[fault.Kind(e).Error()]++
		}
		if source.Intn(10) == 0 {
			wantNumbers(t, all[0], all[1], m, e == nil)
		}
	}
	if kinds["ok"] < 3000 || kinds["twice"] < 200 || kinds["clash at 0"] < 200 || kinds["clash at 1"] < 100 || kinds["size"] < 100 {
		t.Error("too few", kinds)
	}
}

// wantNumbers: each function, import and cell of either has the number that it has in m, by its name, or by what is ahead of it.
func wantNumbers(t *testing.T, a, b, m ir.Module, ok bool) {
	t.Helper()
	for f := -1; f < 26; f++ {
		first, second := -1, -1
		if name := ir.Name(a, f); ok && name != "" {
			first = ir.Find(m, name)
		}
		if name := ir.Name(b, f); ok && name != "" {
			second = ir.Find(m, name)
		}
		if link.Func(a, b, false, f) != first || link.Func(a, b, true, f) != second {
			t.Fatal(a, b, f, link.Func(a, b, false, f), first, link.Func(a, b, true, f), second)
		}
	}
	for c := -1; c < 18; c++ {
		first, second := -1, -1
		if ok && c >= 0 && c < len(a.Cells) {
			first = c
		}
		if ok && c >= 0 && c < len(b.Cells) {
			second = len(a.Cells) + c
		}
		if link.Cell(a, b, false, c) != first || link.Cell(a, b, true, c) != second {
			t.Fatal(a, b, c, link.Cell(a, b, false, c), first, link.Cell(a, b, true, c), second)
		}
	}
}

// threeWays are three modules, the first two put together first, and the last two.
func threeWays(a, b, c ir.Module) (left, right ir.Module, e, f error) {
	ab, e := link.Link(a, b)
	if e == nil {
		left, e = link.Link(ab, c)
	}
	bc, f := link.Link(b, c)
	if f == nil {
		right, f = link.Link(a, bc)
	}
	return left, right, e, f
}

// P22.2, P8: it hangs on no grouping; with nothing a module stays as it is.
func TestGrouping(t *testing.T) {
	source := rand.New(rand.NewSource(2))
	both, open, none := 0, 0, 0
	for range 5000 {
		all := someModules(t, source, 3, true)
		left, right, e, f := threeWays(all[0], all[1], all[2])
		switch {
		case (e == nil) != (f == nil):
			t.Fatal(all, "one way alone", fault.Text(e), fault.Text(f))
		case e != nil:
			none++
		case !ir.Equal(left, right):
			t.Fatal(all, "left", left, "right", right)
		case len(left.Imports) > 0:
			both, open = both+1, open+1
		default:
			both++
		}
		for _, m := range all {
			ahead, e := link.Link(m, ir.Module{})
			behind, f := link.Link(ir.Module{}, m)
			if e != nil || f != nil || !ir.Equal(ahead, m) || !ir.Equal(behind, m) {
				t.Fatal("with nothing", m, ahead, behind)
			}
		}
	}
	if both < 1500 || open < 500 || both-open < 100 || none < 500 {
		t.Error("too few", both, open, none)
	}
}

// P22.2: three modules by hand: each calls the next one's function, and the last one the first one's.
func TestThreeInACircle(t *testing.T) {
	of := func(name string, cell int64, next string) ir.Module {
		return ir.Module{Cells: []int64{cell}, Funcs: []ir.Func{fn(name, 1, 2, block(back(0), load(1, 0), store(1, 0), call(0, 1, 1)))},
			Imports: []ir.Import{{Name: next, Arity: 1}}}
	}
	a, b, c := of("a", 1, "b"), of("b", 2, "c"), of("c", 3, "a")
	want := ir.Module{Cells: []int64{1, 2, 3}}
	for i, name := range []string{"a", "b", "c"} {
		want.Funcs = append(want.Funcs, fn(name, 1, 2, block(back(0), load(1, i), store(1, i), call(0, (i+1)%3, 1))))
	}
	left, right, e, f := threeWays(a, b, c)
	if e != nil || f != nil || !ir.Equal(left, want) || !ir.Equal(right, want) {
		t.Error(left, right, fault.Text(e), fault.Text(f))
	}
	// A third one that fits neither of both by its names' counts of arguments.
	c.Imports[0].Arity = 2
	c.Funcs[0].Blocks[0].Insns[2].Args = []int{0, 1}
	if _, _, e, f := threeWays(a, b, c); fault.Text(e) != "1.1 clash" || fault.Text(f) != "1.2 clash" {
		t.Error(fault.Text(e), fault.Text(f))
	}
}

// P22.2: where there would be too much in all, there is neither way; what goes away at last counts ahead of it no more than what it becomes.
func TestGroupingOfMuch(t *testing.T) {
	for _, c := range []struct {
		about   string
		a, b, c ir.Module
		fits    bool
	}{
		{"24 functions", many("f", 4, 12), many("g", 4, 10), many("h", 8, 2), true},
		{"25 functions", many("f", 4, 12), many("g", 4, 10), many("h", 8, 3), false},
		{"17 cells", many("f", 4, 1), many("g", 4, 1), many("h", 9, 2), false},
		{"imports of functions of the last one", many("f", 0, 12, "h0"), many("g", 0, 10, "h0", "h1"), many("h", 0, 2), true},
		{"imports of functions of the first one", many("f", 0, 2), many("g", 0, 10, "f0", "f1"), many("h", 0, 12, "f1"), true},
		{"imports of functions of the middle one", many("f", 0, 12, "g0", "g1"), many("g", 0, 2), many("h", 0, 10, "g1"), true},
		{"one that stays", many("f", 0, 12, "h0", "x"), many("g", 0, 10, "h0"), many("h", 0, 1), true},
		{"two that stay", many("f", 0, 12, "h0", "x"), many("g", 0, 10, "h0", "h1"), many("h", 0, 1), false},
	} {
		left, right, e, f := threeWays(c.a, c.b, c.c)
		if c.fits && (e != nil || f != nil || !ir.Equal(left, right)) {
			t.Error(c.about, fault.Text(e), fault.Text(f), left, right)
		}
		if !c.fits && (fault.Text(e) != "size" || fault.Text(f) != "size") {
			t.Error(c.about, fault.Text(e), fault.Text(f))
		}
	}
}
