package reload

import (
	"fmt"
	"math"
	"math/rand"
	"reflect"
	"slices"
	"testing"

	"averment/api"
	"averment/edges"
	"averment/fault"
	"averment/ir"
	"averment/table"
)

// lists goes through all lists in x, each with its spare room, the outer ones first.
func lists(x reflect.Value, each func(list reflect.Value)) {
	switch x.Kind() {
	case reflect.Slice:
		all := x.Slice(0, x.Cap())
		each(all)
		for i := range all.Len() {
			lists(all.Index(i), each)
		}
	case reflect.Struct:
		for i := range x.NumField() {
			lists(x.Field(i), each)
		}
	}
}

// roomy is equal to x, but each of its lists has spare room, in which something stands.
func roomy[T any](x T) T {
	fresh := reflect.New(reflect.TypeOf(x)).Elem()
	fresh.Set(withRoom(reflect.ValueOf(x)))
	return fresh.Interface().(T)
}

func withRoom(x reflect.Value) reflect.Value {
	fresh := reflect.New(x.Type()).Elem()
	switch x.Kind() {
	case reflect.Slice:
		all := reflect.MakeSlice(x.Type(), x.Len()+2, x.Len()+2)
		for i := range all.Len() {
			if i < x.Len() {
				all.Index(i).Set(withRoom(x.Index(i)))
			} else {
				all.Index(i).Set(junk(x.Type().Elem()))
			}
		}
		fresh.Set(all.Slice(0, x.Len()))
	case reflect.Struct:
		for i := range x.NumField() {
			fresh.Field(i).Set(withRoom(x.Field(i)))
		}
	default:
		fresh.Set(x)
	}
	return fresh
}

// junk is something of a type that no module and no Table has: lists are left out.
func junk(of reflect.Type) reflect.Value {
	x := reflect.New(of).Elem()
	switch of.Kind() {
	case reflect.Struct:
		for i := range of.NumField() {
			x.Field(i).Set(junk(of.Field(i).Type))
		}
	case reflect.Int, reflect.Int64:
		x.SetInt(-99)
	case reflect.Uint8:
		x.SetUint(99)
	case reflect.String:
		x.SetString("junk")
	case reflect.Bool:
		x.SetBool(true)
	}
	return x
}

// whole is all of x, with spare room.
func whole(x any) string {
	var text string
	lists(reflect.ValueOf(x), func(list reflect.Value) { text += fmt.Sprintln(list) })
	return text
}

// spoil lays junk all over the lists of x, the inner ones first.
func spoil(x any) {
	var all []reflect.Value
	lists(reflect.ValueOf(x), func(list reflect.Value) { all = append(all, list) })
	for _, list := range slices.Backward(all) {
		for j := range list.Len() {
			list.Index(j).Set(junk(list.Type().Elem()))
		}
	}
}

// room is where a list lies.
type room struct{ from, to uintptr }

// rooms are where the lists of x lie.
func rooms(x any) []room {
	var all []room
	lists(reflect.ValueOf(x), func(list reflect.Value) {
		size := uintptr(list.Len()) * list.Type().Elem().Size()
		if size > 0 {
			all = append(all, room{list.Pointer(), list.Pointer() + size})
		}
	})
	return all
}

// apart tells whether no list of the answer lies where another one of it does, or one of other things.
func apart(answer any, things ...any) bool {
	mine := rooms(answer)
	var others []room
	for _, x := range things {
		others = append(others, rooms(x)...)
	}
	for i, a := range mine {
		for _, b := range append(mine[i+1:len(mine):len(mine)], others...) {
			if a.from < b.to && b.from < a.to {
				return false
			}
		}
	}
	return true
}

// given is all that the calls are handed.
type given struct {
	M                    ir.Module
	X, CutsAlone, Little table.Table
	Whole, Sparse, Wrong []byte
}

func handed(t *testing.T) given {
	little := joined()
	little.Funcs[0].Blocks[4].Live = nil
	b := written(t, joining(), joined(), false)
	return roomy(given{joining(), joined(), bare(), little, b, written(t, joining(), bare(), true), b[:len(b)-1]})
}

// calls are all calls, of what follows and of what doesn't.
func calls() map[string]func(g given) any {
	return map[string]func(g given) any{
		"Fill":                        func(g given) any { return fill(g.M, g.X, false) },
		"Fill, sparse":                func(g given) any { return fill(g.M, g.CutsAlone, true) },
		"Fill of what doesn't fit":    func(g given) any { return fill(g.M, g.X, true) },
		"Fill of what doesn't follow": func(g given) any { return fill(g.M, g.Little, false) },
		"Load":                        func(g given) any { return loadOf(g.Whole) },
		"Load, sparse":                func(g given) any { return loadOf(g.Sparse) },
		"Load of no file":             func(g given) any { return loadOf(g.Wrong) },
	}
}

// P20.5: what is handed in isn't changed or kept; answers are new memory, no two lists of which share any.
func TestMemory(t *testing.T) {
	for name, call := range calls() {
		g := handed(t)
		before := whole(g)
		answer := call(g)
		if whole(g) != before {
			t.Error(name, "changed what was handed in")
		}
		kept, told := call(g), fmt.Sprint(answer)
		if !apart(answer, g, kept) {
			t.Error(name, "shares its answer")
		}
		spoil(answer)
		if whole(g) != before || fmt.Sprint(kept) != told || fmt.Sprint(call(g)) != told {
			t.Error(name, "shares what it keeps")
		}
		spoil(g)
		if fmt.Sprint(kept) != told {
			t.Error(name, "keeps what was handed in")
		}
		if fmt.Sprint(call(handed(t))) != told {
			t.Error(name, "isn't told again")
		}
	}
}

// P20.5: no two lists of one answer share memory, though those that are handed in do, and what is made comes of one State.
func TestListsAreApart(t *testing.T) {
	m := ir.Module{Cells: []int64{0, 0}, Funcs: []ir.Func{
		fn("f", 1, 2, block(branch(0, 1, 2)), block(branch(1, 3, 4)), block(jump(4)), block(jump(4)), block(jump(4))),
		fn("g", 1, 2, block(jump(1)), block(jump(2)), block(back(0))),
	}}
	x := table.Any(m)
	shared := x.Funcs[0].Blocks[0]
	shared.State.Sites[1], shared.State.Vals = shared.State.Sites[0], x.Cells
	for f := range x.Funcs {
		x.Funcs[f].Sum.Args = x.Cells[:1]
		for b := range x.Funcs[f].Blocks {
			x.Funcs[f].Blocks[b] = shared
		}
	}
	sparse := table.Sparse(m, x)
	sparse.Funcs[0].Blocks[0], sparse.Funcs[1].Blocks[0], sparse.Funcs[0].Blocks[4] = shared, shared, shared
	for _, got := range []answer{fill(m, x, false), fill(m, sparse, true)} {
		if got.E != "ok" || !apart(got, m, x) {
			t.Error("shared lists", got)
		}
	}
	some(t, 31, 200, 2, func(_ *rand.Rand, m ir.Module, x table.Table) {
		if got := fill(m, table.Sparse(m, x), true); !apart(got, m, x) {
			t.Fatal("what is made", m, x, got)
		}
	})
}

// wrongNumbers are numbers that are hardly any right ones.
var wrongNumbers = []int{math.MinInt, -1, 0, 1, 5, 17, 25, 4096, 4097, math.MaxInt}

// spoilt has something by chance where x has numbers; lists get shorter, or none, or some element twice.
func spoilt(source *rand.Rand, x reflect.Value) {
	switch x.Kind() {
	case reflect.Struct:
		for i := range x.NumField() {
			spoilt(source, x.Field(i))
		}
	case reflect.Slice:
		for i := range x.Len() {
			spoilt(source, x.Index(i))
		}
		switch n := x.Len(); source.Intn(20) {
		case 0:
			x.SetLen(source.Intn(n + 1))
		case 1:
			x.SetZero()
		case 2:
			if n > 0 {
				x.Set(reflect.Append(x, x.Index(source.Intn(n))))
			}
		}
	case reflect.Int, reflect.Int64:
		if source.Intn(40) == 0 {
			x.SetInt(int64(wrongNumbers[source.Intn(len(wrongNumbers))]))
		}
	case reflect.Bool:
		x.SetBool(x.Bool() != (source.Intn(20) == 0))
	}
}

// P1, P20.1: whatever is handed in, there is an end: table.Check's error ahead of all else, or ErrEdge, or what follows.
func TestAnythingEnds(t *testing.T) {
	right := 0
	asked := func(m ir.Module, x table.Table) {
		for _, sparse := range []bool{false, true} {
			told, counts, e := Fill(m, x, sparse)
			if e != nil && fmt.Sprint(answer{told, counts, ""}) != fmt.Sprint(answer{}) {
				t.Fatal("beside an error", told, counts)
			}
			wrong := table.Check(m, x, sparse)
			if wrong != nil && fault.Text(e) != fault.Text(wrong) || wrong == nil && e != nil && !fault.Is(e, api.ErrEdge) {
				t.Fatal(fault.Text(e), fault.Text(wrong))
			}
			if e == nil && edges.Check(m, told) != nil {
				t.Fatal("taken, but it doesn't follow", m, x)
			}
			if wrong == nil {
				right++
			}
		}
	}
	some(t, 32, 600, 2, func(source *rand.Rand, m ir.Module, x table.Table) {
		bad, y := ir.Copy(m), table.Copy(x)
		spoilt(source, reflect.ValueOf(&y).Elem())
		asked(m, y)
		asked(m, table.Sparse(m, y))
		spoilt(source, reflect.ValueOf(&bad).Elem())
		asked(bad, x)
		asked(bad, y)
	})
	if right < 300 {
		t.Error("too few are right", right)
	}
	asked(ir.Module{}, joined())
	asked(joining(), table.Table{})
	for _, n := range wrongNumbers {
		m := ir.Module{Funcs: []ir.Func{{Name: "main", Arity: n, Regs: n, Blocks: []ir.Block{{End: jump(n)}}}}}
		asked(m, table.Table{Funcs: []table.Func{{Blocks: make([]table.Block, 1)}}})
	}
}

// most is a module with as much as there can be, 3648 sites, of whose blocks block 0 and the last one alone are cut points.
func most() ir.Module {
	m := ir.Module{Cells: make([]int64, api.MaxCells)}
	for f := range api.MaxFuncs {
		main := fn(fmt.Sprint("f", f), api.MaxArgs, api.MaxRegs)
		for b := range api.MaxBlocks {
			insns := slices.Repeat([]ir.Insn{input(b % api.MaxRegs)}, api.MaxInsns-1)
			insns = append(insns, call(7, (f+1)%api.MaxFuncs, 0, 1, 2, 3))
			main.Blocks = append(main.Blocks, block(branch(0, min(b+1, api.MaxBlocks-1), api.MaxBlocks-1), insns...))
		}
		m.Funcs = append(m.Funcs, main)
	}
	return m
}

// P1, P20.3: however much there is, there is an end.
func TestMost(t *testing.T) {
	m := most()
	x := table.Any(m)
	counts := Counts{Insns: 24 * 144, Cells: 16, Begins: 24, Edges: 24 * 22, Calls: 24 * 12, Lives: 24 * 12}
	if got := fill(m, x, false); got.E != "ok" || !table.Equal(got.X, x) || got.Counts != counts {
		t.Error("whole", got.E, got.Counts)
	}
	// Behind a Branch that goes on register 0 isn't 0, till it comes in again: one comes to the last block from 0, 8, 10 and itself.
	counts.Edges, counts.Lives = 24*4, 24*2
	got := loadOf(written(t, m, table.Sparse(m, x), true))
	if got.E != "ok" || !table.Within(got.X, x) || table.Equal(got.X, x) || got.Counts != counts {
		t.Error("sparse", got.E, got.Counts)
	}
}
