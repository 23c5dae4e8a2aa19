package merge_test

import (
	"fmt"
	"math"
	"math/rand"
	"reflect"
	"slices"
	"testing"

	"averment/api"
	"averment/edges"
	"averment/fact"
	"averment/fault"
	"averment/flow"
	"averment/ir"
	"averment/link"
	"averment/merge"
	"averment/reload"
	"averment/state"
	"averment/table"
)

// lists goes through all lists in x, each with its spare room, the outer ones first.
func lists(x reflect.Value, each func(list reflect.Value)) {
	switch x.Kind() {
	case reflect.Slice:
		all := x.Slice(0, x.Cap())
		each(all)
		for i := range all.Len() {
			lists(all.Index(i), each)
		}
	case reflect.Struct:
		for i := range x.NumField() {
			lists(x.Field(i), each)
		}
	}
}

// roomy is equal to x, but each of its lists has spare room, in which something stands.
func roomy[T any](x T) T {
	fresh := reflect.New(reflect.TypeOf(x)).Elem()
	fresh.Set(withRoom(reflect.ValueOf(x)))
	return fresh.Interface().(T)
}

func withRoom(x reflect.Value) reflect.Value {
	fresh := reflect.New(x.Type()).Elem()
	switch x.Kind() {
	case reflect.Slice:
		all := reflect.MakeSlice(x.Type(), x.Len()+2, x.Len()+2)
		for i := range all.Len() {
			if i < x.Len() {
				all.Index(i).Set(withRoom(x.Index(i)))
			} else {
				all.Index(i).Set(junk(x.Type().Elem()))
			}
		}
		fresh.Set(all.Slice(0, x.Len()))
	case reflect.Struct:
		for i := range x.NumField() {
			fresh.Field(i).Set(withRoom(x.Field(i)))
		}
	default:
		fresh.Set(x)
	}
	return fresh
}

// junk is something of a type that no module and no Table has: lists are left out.
func junk(of reflect.Type) reflect.Value {
	x := reflect.New(of).Elem()
	switch of.Kind() {
	case reflect.Struct:
		for i := range of.NumField() {
			x.Field(i).Set(junk(of.Field(i).Type))
		}
	case reflect.Int, reflect.Int64:
		x.SetInt(-99)
	case reflect.String:
		x.SetString("junk")
	case reflect.Bool:
		x.SetBool(true)
	}
	return x
}

// whole is all of x, with spare room.
func whole(x any) string {
	var text string
	lists(reflect.ValueOf(x), func(list reflect.Value) { text += fmt.Sprintln(list) })
	return text
}

// spoil lays junk all over the lists of x, the inner ones first.
func spoil(x any) {
	var all []reflect.Value
	lists(reflect.ValueOf(x), func(list reflect.Value) { all = append(all, list) })
	for _, list := range slices.Backward(all) {
		for j := range list.Len() {
			list.Index(j).Set(junk(list.Type().Elem()))
		}
	}
}

// place is where a list lies.
type place struct{ from, to uintptr }

// places are where the lists of x lie.
func places(x any) []place {
	var all []place
	lists(reflect.ValueOf(x), func(list reflect.Value) {
		size := uintptr(list.Len()) * list.Type().Elem().Size()
		if size > 0 {
			all = append(all, place{list.Pointer(), list.Pointer() + size})
		}
	})
	return all
}

// apart tells whether no list of the answer lies where another one of it does, or one of other things.
func apart(answer any, things ...any) bool {
	all := places(answer)
	mine := len(all)
	for _, x := range things {
		all = append(all, places(x)...)
	}
	for i, a := range all[:mine] {
		for _, b := range all[i+1:] {
			if a.from < b.to && b.from < a.to {
				return false
			}
		}
	}
	return true
}

// given is all that the calls are handed.
type given struct {
	A, B                 ir.Module
	S, T, Wrong          table.Table
	Whole, Sparse, Short []byte
}

func handed(t *testing.T) given {
	var g given
	g.A, g.S = counting()
	g.B, g.T = stepping()
	_, g.Wrong = stepping()
	g.Wrong.Funcs[0].Sum.Args[0] = fact.Of(0)
	g.Whole = written(t, g.A, g.S, false)
	g.Sparse = written(t, g.B, table.Sparse(g.B, g.T), true)
	g.Short = g.Sparse[:len(g.Sparse)-1]
	return roomy(g)
}

// merged is all that Merge tells.
type merged struct {
	B []byte
	E string
}

func merging(a, b []byte) merged {
	file, e := merge.Merge(a, b)
	return merged{file, fault.Text(e)}
}

// calls are all calls, of what may be put together and of what may not.
func calls() map[string]func(g given) any {
	return map[string]func(g given) any{
		"Join":                       func(g given) any { return join(g.A, g.S, g.B, g.T) },
		"Join, the other way round":  func(g given) any { return join(g.B, g.T, g.A, g.S) },
		"Join of one alone":          func(g given) any { return join(g.A, g.S, ir.Module{}, table.Table{}) },
		"Join behind nothing":        func(g given) any { return join(ir.Module{}, table.Table{}, g.B, g.T) },
		"Join of what is told wrong": func(g given) any { return join(g.A, g.T, g.B, g.S) },
		"Join of what isn't implied": func(g given) any { return join(g.A, g.S, g.B, g.Wrong) },
		"Join with itself":           func(g given) any { return join(g.A, g.S, g.A, g.S) },
		"Merge":                      func(g given) any { return merging(g.Whole, g.Sparse) },
		"Merge of no file":           func(g given) any { return merging(g.Whole, g.Short) },
		"Merge with itself":          func(g given) any { return merging(g.Sparse, g.Sparse) },
	}
}

// P23.5: what is handed in isn't changed or kept; answers are new memory, no two lists of which share any.
func TestMemory(t *testing.T) {
	for name, call := range calls() {
		g := handed(t)
		before := whole(g)
		answer := call(g)
		if whole(g) != before {
			t.Error(name, "changed what was handed in")
		}
		kept, told := call(g), fmt.Sprint(answer)
		if !apart(answer, g, kept) {
			t.Error(name, "shares its answer")
		}
		spoil(answer)
		if whole(g) != before || fmt.Sprint(kept) != told || fmt.Sprint(call(g)) != told {
			t.Error(name, "shares what it keeps")
		}
		spoil(g)
		if fmt.Sprint(kept) != told {
			t.Error(name, "keeps what was handed in")
		}
		if fmt.Sprint(call(handed(t))) != told {
			t.Error(name, "isn't told again")
		}
	}
}

// P23.5: no two lists of one answer share memory, though those that are handed in do.
func TestListsAreApart(t *testing.T) {
	imports := []ir.Import{{Name: "x", Arity: 1}, {Name: "y", Arity: 1}}
	of := func(name string) ir.Module {
		return ir.Module{Cells: []int64{0}, Imports: imports, Funcs: []ir.Func{fn(name, 1, 1, block(jump(1)), block(back(0)))}}
	}
	a, b := of("a"), of("b")
	vals, sites, live := []fact.Value{fact.Any()}, []int{0}, []int{0}
	at := table.Block{State: state.State{Reached: true, Vals: vals, Sites: [][]int{sites}}, Live: live}
	s := called(vals...)
	s.Args = vals
	x := table.Table{Cells: vals, Funcs: []table.Func{told(s, at, at)}}
	x.Imports = append(x.Imports, s, s)
	got := join(a, x, b, x)
	if got.E != "ok" || !apart(got, a, b, x) {
		t.Error("shared lists", got)
	}
	if told := got.X.Funcs[1].Blocks[1].State.Sites[0]; fmt.Sprint(got.X.Funcs[0].Blocks[1].State.Sites[0], told, sites) != "[0] [1] [0]" {
		t.Error("sites", got.X)
	}
	some(t, 20, 300, 2, true, func(_ *rand.Rand, all []ir.Module, told []table.Table) {
		before := whole(all) + whole(told)
		got := join(all[0], told[0], all[1], told[1])
		if !apart(got, all, told) || whole(all)+whole(told) != before {
			t.Fatal("shares, or changed what was handed in", all, told, got)
		}
	})
}

// P23.5: an error's places are new memory, and nothing is kept for them.
func TestMemoryOfErrors(t *testing.T) {
	for _, c := range spoilers() {
		p := rightPair()
		c.spoil(&p)
		a, b, x, y := roomy(p.a), roomy(p.b), roomy(p.s), roomy(p.t)
		before := whole(a) + whole(b) + whole(x) + whole(y)
		_, _, e := merge.Join(a, x, b, y)
		if whole(a)+whole(b)+whole(x)+whole(y) != before {
			t.Error(c.about, "changed what was handed in")
		}
		spoil(fault.Path(e))
		for _, list := range []any{a, b, x, y} {
			spoil(list)
		}
		if fault.Text(e) != c.want {
			t.Error(c.about, fault.Text(e), c.want)
		}
	}
}

// wrongNumbers are numbers that are hardly any right ones.
var wrongNumbers = []int{math.MinInt, -1, 0, 1, 5, 17, 25, 4096, 4097, math.MaxInt}

// spoilt has something by chance where x has numbers; lists get shorter, or none, or some element twice.
func spoilt(source *rand.Rand, x reflect.Value) {
	switch x.Kind() {
	case reflect.Struct:
		for i := range x.NumField() {
			spoilt(source, x.Field(i))
		}
	case reflect.Slice:
		for i := range x.Len() {
			spoilt(source, x.Index(i))
		}
		switch n := x.Len(); source.Intn(20) {
		case 0:
			x.SetLen(source.Intn(n + 1))
		case 1:
			x.SetZero()
		case 2:
			if n > 0 {
				x.Set(reflect.Append(x, x.Index(source.Intn(n))))
			}
		}
	case reflect.Int, reflect.Int64:
		if source.Intn(60) == 0 {
			x.SetInt(int64(wrongNumbers[source.Intn(len(wrongNumbers))]))
		}
	case reflect.Bool:
		x.SetBool(x.Bool() != (source.Intn(40) == 0))
	case reflect.String:
		if source.Intn(40) == 0 {
			x.SetString("")
		}
	}
}

// P1, P23.1: whatever is handed in, there is an end, and the errors come in their order.
func TestAnythingEnds(t *testing.T) {
	kinds := make(map[api.Errno]int)
	ends := func(a ir.Module, s table.Table, b ir.Module, u table.Table) {
		m, x, e := merge.Join(a, s, b, u)
		kinds[fault.Kind(e)]++
		want := fault.At(table.Check(a, s, false), 0)
		if want == nil {
			want = fault.At(table.Check(b, u, false), 1)
		}
		if want == nil {
			_, want = link.Link(a, b)
		}
		if want != nil && fault.Text(e) != fault.Text(want) || want == nil && e != nil && (!fault.Is(e, api.ErrImply) || len(fault.Path(e)) != 2) {
			t.Fatal("got", fault.Text(e), "want", fault.Text(want), a, s, b, u)
		}
		if e != nil && (!ir.Equal(m, ir.Module{}) || !table.Equal(x, table.Table{})) {
			t.Fatal("something beside an error", m, x)
		}
		if e == nil && table.Check(m, x, false) != nil {
			t.Fatal("not in normal form", a, s, b, u, m, x)
		}
	}
	some(t, 21, 800, 2, true, func(source *rand.Rand, all []ir.Module, told []table.Table) {
		a, b, s, u := ir.Copy(all[0]), ir.Copy(all[1]), table.Copy(told[0]), table.Copy(told[1])
		for _, x := range []reflect.Value{reflect.ValueOf(&a), reflect.ValueOf(&b), reflect.ValueOf(&s), reflect.ValueOf(&u)} {
			spoilt(source, x.Elem())
		}
		ends(a, told[0], all[1], told[1])
		ends(all[0], s, all[1], told[1])
		ends(all[0], told[0], b, told[1])
		ends(all[0], told[0], all[1], u)
		ends(a, s, b, u)
		ends(all[0], told[1], all[1], told[0])
		ends(all[0], told[0], all[0], told[0])
	})
	if kinds[api.OK] < 150 || kinds[api.ErrImply] < 30 || kinds[api.ErrDup] < 200 || len(kinds) < 12 {
		t.Error("too few", kinds)
	}
	for _, n := range wrongNumbers {
		m := ir.Module{Funcs: []ir.Func{{Name: "main", Arity: n, Regs: n, Blocks: []ir.Block{{End: jump(n)}}}}, Imports: []ir.Import{{Name: "g", Arity: n}}}
		x := table.Table{Funcs: []table.Func{{Blocks: make([]table.Block, 1)}}, Imports: []flow.Sum{called(make([]fact.Value, 2)...)}}
		ends(m, x, ir.Module{}, table.Table{})
		ends(ir.Module{}, table.Table{}, m, x)
		ends(m, x, m, x)
	}
}

// P1: however much there is, there is an end.
func TestMuchEnds(t *testing.T) {
	const n = 100000
	m := ir.Module{Cells: make([]int64, n), Imports: make([]ir.Import, n), Funcs: make([]ir.Func, n)}
	x := table.Table{Cells: make([]fact.Value, n), Imports: make([]flow.Sum, n), Funcs: make([]table.Func, n)}
	a, s := counting()
	wantError(t, "much on both sides", m, x, m, x, "0 size")
	wantError(t, "much ahead", m, x, a, s, "0 size")
	wantError(t, "much behind", a, s, m, x, "1 size")
	wantError(t, "much told", a, x, a, s, "0 shape")
	wantError(t, "much told behind", a, s, a, x, "1 shape")
	much := make([]byte, n)
	for _, c := range []struct {
		a, b []byte
		want string
	}{
		{much, much, "0.0 form"},
		{written(t, a, s, false), much, "1.0 form"},
		{append(written(t, a, s, false), much...), nil, fmt.Sprint("0.", len(written(t, a, s, false)), " form")},
	} {
		if got := merging(c.a, c.b); got.E != c.want || got.B != nil {
			t.Error(got, c.want)
		}
	}
}

// P1, P23.2: as much as there can be on either side: 3648 sites, each register from any of its module's.
func TestMost(t *testing.T) {
	of := func(begin, other string) ir.Module {
		m := ir.Module{Cells: make([]int64, 8)}
		for f := range 12 {
			g := fn(fmt.Sprint(begin, 10+f), 4, 8)
			for b := range 12 {
				g.Blocks = append(g.Blocks, block(branch(0, min(b+1, 11), 0), slices.Repeat([]ir.Insn{call(7, 12+f, 0, 1, 2, 3), load(7, 7)}, 6)...))
			}
			m.Funcs = append(m.Funcs, g)
			m.Imports = append(m.Imports, ir.Import{Name: fmt.Sprint(other, 10+f), Arity: 4})
		}
		return m
	}
	a, b := of("f", "g"), of("g", "f")
	file := merging(written(t, a, table.Any(a), false), written(t, b, table.Sparse(b, table.Any(b)), true))
	m, x, _, e := reload.Load(file.B)
	if file.E != "ok" || e != nil || len(m.Funcs) != 24 || ir.Sites(m) != 3648 || edges.Check(m, x) != nil {
		t.Fatal(file.E, fault.Text(e), len(m.Funcs), ir.Sites(m))
	}
	for f, told := range x.Funcs {
		sites := told.Blocks[0].State.Sites[7]
		if first := f / 12 * 1824; len(sites) != 1824 || sites[0] != first || sites[1823] != first+1823 {
			t.Error(f, len(sites), sites[:1])
		}
	}
}
