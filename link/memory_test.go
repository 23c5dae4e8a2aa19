package link_test

import (
	"fmt"
	"math"
	"math/rand"
	"reflect"
	"slices"
	"testing"

	"averment/api"
	"averment/fault"
	"averment/ir"
	"averment/link"
)

// lists goes through all lists in x, each with its spare room, the outer ones first.
func lists(x reflect.Value, each func(list reflect.Value)) {
	switch x.Kind() {
	case reflect.Slice:
		all := x.Slice(0, x.Cap())
		each(all)
		for i := range all.Len() {
			lists(all.Index(i), each)
		}
	case reflect.Struct:
		for i := range x.NumField() {
			lists(x.Field(i), each)
		}
	}
}

// roomy is equal to x, but each of its lists has spare room, in which something stands.
func roomy[T any](x T) T {
	fresh := reflect.New(reflect.TypeOf(x)).Elem()
	fresh.Set(withRoom(reflect.ValueOf(x)))
	return fresh.Interface().(T)
}

func withRoom(x reflect.Value) reflect.Value {
	fresh := reflect.New(x.Type()).Elem()
	switch x.Kind() {
	case reflect.Slice:
		all := reflect.MakeSlice(x.Type(), x.Len()+2, x.Len()+2)
		for i := range all.Len() {
			if i < x.Len() {
				all.Index(i).Set(withRoom(x.Index(i)))
			} else {
				all.Index(i).Set(junk(x.Type().Elem()))
			}
		}
		fresh.Set(all.Slice(0, x.Len()))
	case reflect.Struct:
		for i := range x.NumField() {
			fresh.Field(i).Set(withRoom(x.Field(i)))
		}
	default:
		fresh.Set(x)
	}
	return fresh
}

// junk is something of a type that no module and no Table has: lists are left out.
func junk(of reflect.Type) reflect.Value {
	x := reflect.New(of).Elem()
	switch of.Kind() {
	case reflect.Struct:
		for i := range of.NumField() {
			x.Field(i).Set(junk(of.Field(i).Type))
		}
	case reflect.Int, reflect.Int64:
		x.SetInt(-99)
	case reflect.String:
		x.SetString("junk")
	case reflect.Bool:
		x.SetBool(true)
	}
	return x
}

// whole is all of x, with spare room.
func whole(x any) string {
	var text string
	lists(reflect.ValueOf(x), func(list reflect.Value) { text += fmt.Sprintln(list) })
	return text
}

// spoil lays junk all over the lists of x, the inner ones first.
func spoil(x any) {
	var all []reflect.Value
	lists(reflect.ValueOf(x), func(list reflect.Value) { all = append(all, list) })
	for _, list := range slices.Backward(all) {
		for j := range list.Len() {
			list.Index(j).Set(junk(list.Type().Elem()))
		}
	}
}

// place is where a list lies.
type place struct{ from, to uintptr }

// places are where the lists of x lie.
func places(x any) []place {
	var all []place
	lists(reflect.ValueOf(x), func(list reflect.Value) {
		size := uintptr(list.Len()) * list.Type().Elem().Size()
		if size > 0 {
			all = append(all, place{list.Pointer(), list.Pointer() + size})
		}
	})
	return all
}

// apart tells whether no list of the answer lies where another one of it does, or one of other things.
func apart(answer any, things ...any) bool {
	all := places(answer)
	mine := len(all)
	for _, x := range things {
		all = append(all, places(x)...)
	}
	for i, a := range all[:mine] {
		for _, b := range all[i+1:] {
			if a.from < b.to && b.from < a.to {
				return false
			}
		}
	}
	return true
}

// answer is all that the calls tell of two modules.
type answer struct {
	M              ir.Module
	E              string
	Funcs, Cells   []int
	Funcs2, Cells2 []int
}

func asked(a, b ir.Module) answer {
	m, e := link.Link(a, b)
	x := answer{M: m, E: fault.Text(e)}
	for n := -1; n < 26; n++ {
		x.Funcs, x.Funcs2 = append(x.Funcs, link.Func(a, b, false, n)), append(x.Funcs2, link.Func(a, b, true, n))
		x.Cells, x.Cells2 = append(x.Cells, link.Cell(a, b, false, n)), append(x.Cells2, link.Cell(a, b, true, n))
	}
	return x
}

// wantApart: what is handed in isn't changed, its spare room neither, and not kept; answers are new memory, of which no two lists are one.
func wantApart(t *testing.T, a, b ir.Module) {
	t.Helper()
	plain := fmt.Sprint(asked(a, b))
	a, b = roomy(a), roomy(b)
	before := whole(a) + whole(b)
	first, again := asked(a, b), asked(a, b)
	if whole(a)+whole(b) != before {
		t.Fatal("changed what was handed in", a, b)
	}
	if fmt.Sprint(first) != plain || fmt.Sprint(again) != plain {
		t.Fatal("not the same again", a, b, first, again, plain)
	}
	if !apart(first.M, again.M, a, b) {
		t.Fatal("shares what it answers", a, b)
	}
	// What is answered is changed: neither another answer nor what was handed in is.
	spoil(first.M)
	if fmt.Sprint(again) != plain || whole(a)+whole(b) != before {
		t.Fatal("shares what it answers", a, b)
	}
	if third := asked(a, b); fmt.Sprint(third) != plain {
		t.Fatal("kept what it answered", a, b)
	}
	// What was handed in is changed: what was answered isn't.
	spoil(a)
	spoil(b)
	if fmt.Sprint(again) != plain {
		t.Fatal("kept what was handed in", a, b)
	}
}

// P22.4: by hand and by chance, also of errors.
func TestMemory(t *testing.T) {
	wantApart(t, upper(), lower())
	wantApart(t, lower(), upper())
	wantApart(t, upper(), ir.Module{})
	wantApart(t, ir.Module{}, upper())
	for _, c := range faults() {
		p := rightPair()
		c.spoil(&p)
		wantApart(t, p.a, p.b)
	}
	source := rand.New(rand.NewSource(4))
	for range 200 {
		all := someModules(t, source, 2, true)
		wantApart(t, all[0], all[1])
	}
}

// P22.4: lists that are handed in may share what they have, also those of both modules: no two lists of the answer do.
func TestSharedLists(t *testing.T) {
	cells, imports := []int64{1, 2, 3}, []ir.Import{{Name: "g", Arity: 2}}
	regs := []int{0, 1}
	insns := []ir.Insn{load(0, 2), call(1, 2, regs...), call(0, 2), store(1, 0), call(1, 1)}
	insns[1].Args, insns[2].Args = regs, regs
	blocks := []ir.Block{block(jump(1), insns...), block(back(0), insns...)}
	of := func(one, other string) ir.Module {
		return ir.Module{Cells: cells, Imports: imports, Funcs: []ir.Func{fn(one, 0, 2, blocks...), fn(other, 0, 2, blocks...)}}
	}
	a, b := of("a", "b"), of("c", "d")
	before := whole(a) + whole(b)
	m, e := link.Link(a, b)
	alone, _ := modelled(ir.Copy(a), ir.Copy(b))
	if e != nil || !ir.Equal(m, alone) || whole(a)+whole(b) != before {
		t.Error(m, fault.Text(e), alone)
	}
	if !apart(m, a, b) {
		t.Error("shares what it answers", m)
	}
	// The same module on both sides.
	only := ir.Module{Cells: cells, Imports: imports}
	m, e = link.Link(only, only)
	if want := (ir.Module{Cells: []int64{1, 2, 3, 1, 2, 3}, Imports: imports}); e != nil || !ir.Equal(m, want) || !apart(m, only) {
		t.Error(m, fault.Text(e))
	}
}

// P22.4: an error's places are new memory, and nothing is kept for them.
func TestMemoryOfErrors(t *testing.T) {
	for _, c := range faults() {
		p := rightPair()
		c.spoil(&p)
		a, b := roomy(p.a), roomy(p.b)
		_, e := link.Link(a, b)
		spoil(fault.Path(e))
		spoil(a)
		spoil(b)
		if fault.Text(e) != c.want {
			t.Error(c.about, fault.Text(e), c.want)
		}
	}
}

// wrongNumbers are numbers that are hardly any right ones.
var wrongNumbers = []int{math.MinInt, -1, 0, 1, 5, 17, 25, 4096, 4097, math.MaxInt}

// spoilt has something by chance where x has numbers; lists get shorter, or none, or some element twice.
func spoilt(source *rand.Rand, x reflect.Value) {
	switch x.Kind() {
	case reflect.Struct:
		for i := range x.NumField() {
			spoilt(source, x.Field(i))
		}
	case reflect.Slice:
		for i := range x.Len() {
			spoilt(source, x.Index(i))
		}
		switch n := x.Len(); source.Intn(20) {
		case 0:
			x.SetLen(source.Intn(n + 1))
		case 1:
			x.SetZero()
		case 2:
			if n > 0 {
				x.Set(reflect.Append(x, x.Index(source.Intn(n))))
			}
		}
	case reflect.Int, reflect.Int64:
		if source.Intn(60) == 0 {
			x.SetInt(int64(wrongNumbers[source.Intn(len(wrongNumbers))]))
		}
	case reflect.String:
		if source.Intn(40) == 0 {
			x.SetString("")
		}
	}
}

// P1, P22.1: whatever is handed in, there is an end, and the error that comes first.
func TestAnythingEnds(t *testing.T) {
	kinds := make(map[api.Errno]int)
	ends := func(a, b ir.Module) {
		m, e := link.Link(a, b)
		kinds[fault.Kind(e)]++
		want := fault.At(ir.Check(a), 0)
		if want == nil {
			want = fault.At(ir.Check(b), 1)
		}
		if want != nil && fault.Text(e) != fault.Text(want) {
			t.Fatal("got", fault.Text(e), "want", fault.Text(want), a, b)
		}
		if e != nil && !ir.Equal(m, ir.Module{}) {
			t.Fatal("something beside an error", m, a, b)
		}
		if e == nil && ir.Check(m) != nil {
			t.Fatal("not well-formed", m, a, b)
		}
		for _, n := range wrongNumbers {
			for _, second := range []bool{false, true} {
				if f, c := link.Func(a, b, second, n), link.Cell(a, b, second, n); e != nil && (f != -1 || c != -1) {
					t.Fatal("numbers without a Link", f, c, a, b)
				}
			}
		}
	}
	source := rand.New(rand.NewSource(5))
	for range 1000 {
		all := someModules(t, source, 2, true)
		bad := []ir.Module{ir.Copy(all[0]), ir.Copy(all[1])}
		spoilt(source, reflect.ValueOf(&bad[0]).Elem())
		spoilt(source, reflect.ValueOf(&bad[1]).Elem())
		ends(all[0], bad[1])
		ends(bad[0], all[1])
		ends(bad[0], bad[1])
	}
	if kinds[api.OK] < 100 || len(kinds) < 11 {
		t.Error("too few", kinds)
	}
	for _, n := range wrongNumbers {
		m := ir.Module{Funcs: []ir.Func{{Name: "main", Arity: n, Regs: n, Blocks: []ir.Block{{Insns: []ir.Insn{load(n, n), call(n, n, n)}, End: jump(n)}}}}, Imports: []ir.Import{{Name: "g", Arity: n}}}
		ends(m, ir.Module{})
		ends(ir.Module{}, m)
		ends(m, m)
		ends(upper(), m)
	}
}

// P1: however much there is, there is an end.
func TestMuchEnds(t *testing.T) {
	const n = 100000
	m := ir.Module{Cells: make([]int64, n), Imports: make([]ir.Import, n), Funcs: make([]ir.Func, n)}
	for _, c := range []struct {
		a, b ir.Module
		want string
	}{
		{m, m, "0 size"},
		{upper(), m, "1 size"},
		{upper(), ir.Module{Funcs: m.Funcs}, "1 size"},
		{upper(), ir.Module{Imports: m.Imports}, "1 size"},
		{ir.Module{Funcs: []ir.Func{fn("f", 0, 1, make([]ir.Block, n)...)}}, m, "0.0 size"},
	} {
		wantError(t, "much", c.a, c.b, c.want)
		if link.Func(c.a, c.b, true, 0) != -1 || link.Cell(c.a, c.b, true, 0) != -1 {
			t.Error("numbers without a Link")
		}
	}
}

// P1, P22.1: as much as there can be on either side.
func TestMost(t *testing.T) {
	of := func(begin, other string) ir.Module {
		m := ir.Module{Cells: make([]int64, 8)}
		for f := range 12 {
			g := fn(fmt.Sprint(begin, 10+f), 4, 8)
			for range 12 {
				g.Blocks = append(g.Blocks, block(jump(11), slices.Repeat([]ir.Insn{call(7, 12+f, 0, 1, 2, 3), load(7, 7)}, 6)...))
			}
			m.Funcs = append(m.Funcs, g)
			m.Imports = append(m.Imports, ir.Import{Name: fmt.Sprint(other, 10+f), Arity: 4})
		}
		return m
	}
	m := linked(t, of("f", "g"), of("g", "f"))
	if len(m.Funcs) != 24 || len(m.Imports) != 0 || len(m.Cells) != 16 || ir.Check(m) != nil || ir.Sites(m) != 3648 {
		t.Error(len(m.Funcs), len(m.Imports), len(m.Cells), fault.Text(ir.Check(m)), ir.Sites(m))
	}
	for f, fn := range m.Funcs {
		if x := fn.Blocks[11].Insns; x[10].B != (f+12)%24 || x[11].B != 7+f/12*8 {
			t.Error(f, x[10], x[11])
		}
	}
}
