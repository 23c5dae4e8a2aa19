package table

import (
	"fmt"
	"math"
	"math/rand"
	"reflect"
	"testing"

	"averment/fact"
	"averment/flow"
	"averment/ir"
	"averment/state"
)

// lists goes through all lists in x, each with its spare room, the outer ones first.
func lists(x reflect.Value, each func(list reflect.Value)) {
	switch x.Kind() {
	case reflect.Slice:
		all := x.Slice(0, x.Cap())
		each(all)
		for i := range all.Len() {
			lists(all.Index(i), each)
		}
	case reflect.Struct:
		for i := range x.NumField() {
			lists(x.Field(i), each)
		}
	}
}

// roomy is equal to x, but each of its lists has spare room, in which something stands.
func roomy[T any](x T) T {
	fresh := reflect.New(reflect.TypeOf(x)).Elem()
	fresh.Set(withRoom(reflect.ValueOf(x)))
	return fresh.Interface().(T)
}

func withRoom(x reflect.Value) reflect.Value {
	fresh := reflect.New(x.Type()).Elem()
	switch x.Kind() {
	case reflect.Slice:
		all := reflect.MakeSlice(x.Type(), x.Len()+2, x.Len()+2)
		for i := range all.Len() {
			if i < x.Len() {
				all.Index(i).Set(withRoom(x.Index(i)))
			} else {
				all.Index(i).Set(junk(x.Type().Elem()))
			}
		}
		fresh.Set(all.Slice(0, x.Len()))
	case reflect.Struct:
		for i := range x.NumField() {
			fresh.Field(i).Set(withRoom(x.Field(i)))
		}
	default:
		fresh.Set(x)
	}
	return fresh
}

// junk is something of a type that no module and no Table has: lists are left out.
func junk(of reflect.Type) reflect.Value {
	x := reflect.New(of).Elem()
	switch of.Kind() {
	case reflect.Struct:
		for i := range of.NumField() {
			x.Field(i).Set(junk(of.Field(i).Type))
		}
	case reflect.Int, reflect.Int64:
		x.SetInt(-99)
	case reflect.String:
		x.SetString("junk")
	case reflect.Bool:
		x.SetBool(true)
	}
	return x
}

// whole is all of x, with spare room.
func whole(x any) string {
	var text string
	lists(reflect.ValueOf(x), func(list reflect.Value) { text += fmt.Sprintln(list) })
	return text
}

// spoil lays junk all over the lists of x, the inner ones first.
func spoil(x any) {
	var all []reflect.Value
	lists(reflect.ValueOf(x), func(list reflect.Value) { all = append(all, list) })
	for i := len(all) - 1; i >= 0; i-- {
		for j := range all[i].Len() {
			all[i].Index(j).Set(junk(all[i].Type().Elem()))
		}
	}
}

// room is where a list lies.
type room struct{ from, to uintptr }

// rooms are where the lists of x lie.
func rooms(x any) []room {
	var all []room
	lists(reflect.ValueOf(x), func(list reflect.Value) {
		size := uintptr(list.Len()) * list.Type().Elem().Size()
		if size > 0 {
			all = append(all, room{list.Pointer(), list.Pointer() + size})
		}
	})
	return all
}

// apart tells whether no list of the answer lies where another one of it does, or one of other things.
func apart(answer any, things ...any) bool {
	mine := rooms(answer)
	var others []room
	for _, x := range things {
		others = append(others, rooms(x)...)
	}
	for i, a := range mine {
		for _, b := range append(mine[i+1:len(mine):len(mine)], others...) {
			if a.from < b.to && b.from < a.to {
				return false
			}
		}
	}
	return true
}

// given is all that the calls are handed.
type given struct {
	m    ir.Module
	x, y Table
}

func handed() given { return given{roomy(two()), roomy(told()), roomy(Any(two()))} }

// calls are all calls.
func calls() map[string]func(g given) any {
	return map[string]func(g given) any{
		"Check":         func(g given) any { return fmt.Sprint(Check(g.m, g.x, false)) },
		"Check, sparse": func(g given) any { return fmt.Sprint(Check(g.m, g.x, true)) },
		"Sparse":        func(g given) any { return Sparse(g.m, g.x) },
		"Env":           func(g given) any { return Env(g.m, g.x) },
		"Any":           func(g given) any { return Any(g.m) },
		"None":          func(g given) any { return None(g.m) },
		"Copy":          func(g given) any { return Copy(g.x) },
		"Copy of Any":   func(g given) any { return Copy(g.y) },
		"Equal":         func(g given) any { return Equal(g.x, g.y) },
		"Within":        func(g given) any { return Within(g.x, g.y) },
	}
}

// P17.3: what is handed in isn't changed or kept; answers are new memory, no two lists of which share any.
func TestMemory(t *testing.T) {
	for name, call := range calls() {
		g := handed()
		before := whole(g.m) + whole(g.x) + whole(g.y)
		answer := call(g)
		if whole(g.m)+whole(g.x)+whole(g.y) != before {
			t.Error(name, "changed what was handed in")
		}
		kept, told := call(g), fmt.Sprint(answer)
		if !apart(answer, g.m, g.x, g.y, kept) {
			t.Error(name, "shares its answer")
		}
		spoil(answer)
		if whole(g.m)+whole(g.x)+whole(g.y) != before || fmt.Sprint(kept) != told || fmt.Sprint(call(g)) != told {
			t.Error(name, "shares what it keeps")
		}
		spoil(g.m)
		spoil(g.x)
		spoil(g.y)
		if fmt.Sprint(kept) != told {
			t.Error(name, "keeps what was handed in")
		}
		if fmt.Sprint(call(handed())) != told {
			t.Error(name, "isn't told again")
		}
	}
}

// P17.3: no two lists of one answer share memory, though those that are handed in do.
func TestListsAreApart(t *testing.T) {
	set, vals := []int{0, 1}, of(0, 1)
	s := state.State{Reached: true, Vals: vals, Sites: [][]int{set, set}}
	x := told()
	x.Cells = vals
	x.Funcs[0].Blocks[0], x.Funcs[0].Blocks[1] = Block{State: s, Live: set}, Block{State: s, Live: set}
	x.Funcs[1].Sum.Args, x.Imports[2].Args = vals, vals
	wantRight(t, "shared lists", two(), x, false)
	for name, call := range calls() {
		if !apart(call(given{two(), x, x}), x) {
			t.Error(name)
		}
	}
}

// wrongNumbers are numbers that are hardly any right ones.
var wrongNumbers = []int{math.MinInt, -1, 0, 1, 5, 17, 25, 4096, 4097, math.MaxInt}

// spoilt has something by chance where x has numbers; lists get shorter, or none, or some element twice.
func spoilt(source *rand.Rand, x reflect.Value) {
	switch x.Kind() {
	case reflect.Struct:
		for i := range x.NumField() {
			spoilt(source, x.Field(i))
		}
	case reflect.Slice:
		for i := range x.Len() {
			spoilt(source, x.Index(i))
		}
		switch n := x.Len(); source.Intn(12) {
		case 0:
			x.SetLen(source.Intn(n + 1))
		case 1:
			x.SetZero()
		case 2:
			if n > 0 {
				x.Set(reflect.Append(x, x.Index(source.Intn(n))))
			}
		}
	case reflect.Int, reflect.Int64:
		if source.Intn(12) == 0 {
			x.SetInt(int64(wrongNumbers[source.Intn(len(wrongNumbers))]))
		}
	case reflect.Bool:
		x.SetBool(x.Bool() != (source.Intn(12) == 0))
	}
}

// asked calls all.
func asked(m ir.Module, x, y Table) {
	for _, call := range calls() {
		call(given{m, x, y})
	}
}

// P1: of modules that aren't well-formed, and of Tables that fit none, there is an end.
func TestAnythingEnds(t *testing.T) {
	some(t, 3000, func(source *rand.Rand, m ir.Module, x Table) {
		bad, y := ir.Copy(m), Copy(x)
		spoilt(source, reflect.ValueOf(&y).Elem())
		asked(m, y, x)
		asked(m, x, y)
		spoilt(source, reflect.ValueOf(&bad).Elem())
		asked(bad, x, y)
		asked(bad, y, x)
	})
	asked(ir.Module{}, told(), Table{})
	asked(two(), Table{}, told())
	asked(ir.Module{Funcs: []ir.Func{{}}}, Table{Funcs: []Func{{Blocks: make([]Block, 3)}}}, Table{})
	for _, n := range wrongNumbers {
		m := ir.Module{Funcs: []ir.Func{{Name: "f", Arity: n, Regs: n, Blocks: []ir.Block{{End: ir.End{Op: ir.Jump, To: n}}}}}, Imports: []ir.Import{{Name: "g", Arity: n}}}
		asked(m, Table{Funcs: []Func{{Blocks: make([]Block, 1)}}}, Table{Imports: make([]flow.Sum, 1)})
	}
}

// P1: however much there is, there is an end.
func TestMuchEnds(t *testing.T) {
	const n = 100000
	m := ir.Module{Cells: make([]int64, n), Imports: make([]ir.Import, n), Funcs: make([]ir.Func, 2)}
	m.Funcs[1].Blocks = make([]ir.Block, n)
	for b := range n {
		m.Funcs[1].Blocks[b].End = ir.End{Op: ir.Branch, To: n - 1 - b, Else: b / 2}
	}
	x := Table{Cells: make([]fact.Value, n), Imports: make([]flow.Sum, n), Funcs: []Func{{}, {Blocks: make([]Block, n)}, {Blocks: make([]Block, n)}}}
	asked(m, x, x)
}
