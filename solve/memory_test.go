package solve

import (
	"fmt"
	"math"
	"math/rand"
	"reflect"
	"slices"
	"testing"

	"averment/api"
	"averment/fault"
	"averment/ir"
	"averment/table"
)

// lists goes through all lists in x, each with its spare room, the outer ones first.
func lists(x reflect.Value, each func(list reflect.Value)) {
	switch x.Kind() {
	case reflect.Slice:
		all := x.Slice(0, x.Cap())
		each(all)
		for i := range all.Len() {
			lists(all.Index(i), each)
		}
	case reflect.Struct:
		for i := range x.NumField() {
			lists(x.Field(i), each)
		}
	}
}

// roomy is equal to x, but each of its lists has spare room, in which something stands.
func roomy[T any](x T) T {
	fresh := reflect.New(reflect.TypeOf(x)).Elem()
	fresh.Set(withRoom(reflect.ValueOf(x)))
	return fresh.Interface().(T)
}

func withRoom(x reflect.Value) reflect.Value {
	fresh := reflect.New(x.Type()).Elem()
	switch x.Kind() {
	case reflect.Slice:
		all := reflect.MakeSlice(x.Type(), x.Len()+2, x.Len()+2)
		for i := range all.Len() {
			if i < x.Len() {
				all.Index(i).Set(withRoom(x.Index(i)))
			} else {
				all.Index(i).Set(junk(x.Type().Elem()))
			}
		}
		fresh.Set(all.Slice(0, x.Len()))
	case reflect.Struct:
		for i := range x.NumField() {
			fresh.Field(i).Set(withRoom(x.Field(i)))
		}
	default:
		fresh.Set(x)
	}
	return fresh
}

// junk is something of a type that no module and no Table has: lists are left out.
func junk(of reflect.Type) reflect.Value {
	x := reflect.New(of).Elem()
	switch of.Kind() {
	case reflect.Struct:
		for i := range of.NumField() {
			x.Field(i).Set(junk(of.Field(i).Type))
		}
	case reflect.Int, reflect.Int64:
		x.SetInt(-99)
	case reflect.String:
		x.SetString("junk")
	case reflect.Bool:
		x.SetBool(true)
	}
	return x
}

// whole is all of x, with spare room.
func whole(x any) string {
	var text string
	lists(reflect.ValueOf(x), func(list reflect.Value) { text += fmt.Sprintln(list) })
	return text
}

// spoil lays junk all over the lists of x, the inner ones first.
func spoil(x any) {
	var all []reflect.Value
	lists(reflect.ValueOf(x), func(list reflect.Value) { all = append(all, list) })
	for _, list := range slices.Backward(all) {
		for j := range list.Len() {
			list.Index(j).Set(junk(list.Type().Elem()))
		}
	}
}

// place is where a list lies.
type place struct{ from, to uintptr }

// places are where the lists of x lie.
func places(x any) []place {
	var all []place
	lists(reflect.ValueOf(x), func(list reflect.Value) {
		size := uintptr(list.Len()) * list.Type().Elem().Size()
		if size > 0 {
			all = append(all, place{list.Pointer(), list.Pointer() + size})
		}
	})
	return all
}

// apart tells whether no list of the answer lies where another one of it does, or one of other things.
func apart(answer any, things ...any) bool {
	all := places(answer)
	mine := len(all)
	for _, x := range things {
		all = append(all, places(x)...)
	}
	for i, a := range all[:mine] {
		for _, b := range all[i+1:] {
			if a.from < b.to && b.from < a.to {
				return false
			}
		}
	}
	return true
}

// P21.5: what is handed in isn't changed, its spare room neither, and not kept; answers are new memory, of which no two lists are one.
func TestMemory(t *testing.T) {
	asked := func(m ir.Module, roots []int) {
		plain := fmt.Sprint(solve(m, roots, Bound(m)))
		m, roots = roomy(m), roomy(roots)
		before := whole(m) + whole(roots)
		first, again := solve(m, roots, Bound(m)), solve(m, roots, Bound(m))
		Height(m)
		if whole(m)+whole(roots) != before {
			t.Fatal("changed what was handed in", m, roots)
		}
		if fmt.Sprint(first) != plain || fmt.Sprint(again) != plain {
			t.Fatal("not the same again", m, roots, first, again, plain)
		}
		if !apart(first.X, again.X, m, roots) {
			t.Fatal("shares what it answers", m, roots)
		}
		// What is answered is changed: neither another answer nor what was handed in is.
		spoil(first.X)
		if fmt.Sprint(again) != plain || whole(m)+whole(roots) != before {
			t.Fatal("shares what it answers", m, roots)
		}
		if third := solve(m, roots, Bound(m)); fmt.Sprint(third) != plain {
			t.Fatal("kept what it answered", m, roots)
		}
		// What was handed in is changed: what was answered isn't.
		spoil(m)
		spoil(roots)
		if fmt.Sprint(again) != plain {
			t.Fatal("kept what was handed in", m, roots)
		}
	}
	for _, m := range []ir.Module{{}, five(), ways(), counting(), slow(2)} {
		asked(m, nil)
		if len(m.Funcs) > 0 {
			asked(m, set{0, 0})
		}
	}
	asked(rooted(), set{1, 2, 0})
	some(t, 20, 250, 3, func(_ *rand.Rand, m ir.Module, roots []int) { asked(m, roots) })
}

// P21.5: an error's places are new memory; with an error, too, nothing is changed or kept.
func TestMemoryOfErrors(t *testing.T) {
	for _, c := range []struct {
		m      ir.Module
		roots  []int
		budget int
		want   string
	}{
		{rooted(), set{0, 3}, 100, "1 symbol"},
		{rooted(), set{0, 2}, 1, "budget"},
		{ir.Module{Funcs: []ir.Func{fn("f", 0, 1, block(jump(1)))}}, set{5}, 100, "0.0.0 label"},
	} {
		m, roots := roomy(c.m), roomy(c.roots)
		before := whole(m) + whole(roots)
		_, _, e := Solve(m, roots, c.budget)
		_, _, again := Solve(m, roots, c.budget)
		if whole(m)+whole(roots) != before {
			t.Error(c.want, "changed what was handed in")
		}
		spoil(m)
		spoil(roots)
		spoil(fault.Path(again))
		if fault.Text(e) != c.want || fault.Text(again) != c.want {
			t.Error(fault.Text(e), fault.Text(again), c.want)
		}
	}
}

// P21.5: lists that are handed in may share what they have.
func TestSharedLists(t *testing.T) {
	m := ways()
	m.Funcs[0].Blocks[2] = m.Funcs[0].Blocks[1]
	m.Funcs[0].Blocks[6] = m.Funcs[0].Blocks[5]
	before := whole(m)
	alone := ir.Copy(m)
	if got, want := solve(m, nil, Bound(m)), solve(alone, nil, Bound(m)); fmt.Sprint(got) != fmt.Sprint(want) || whole(m) != before {
		t.Error(got, want)
	}
}

// wrongNumbers are numbers that are hardly any right ones.
var wrongNumbers = []int{math.MinInt, -1, 0, 1, 5, 17, 25, 4096, 4097, math.MaxInt}

// spoilt has something by chance where x has numbers; lists get shorter, or none, or some element twice.
func spoilt(source *rand.Rand, x reflect.Value) {
	switch x.Kind() {
	case reflect.Struct:
		for i := range x.NumField() {
			spoilt(source, x.Field(i))
		}
	case reflect.Slice:
		for i := range x.Len() {
			spoilt(source, x.Index(i))
		}
		switch n := x.Len(); source.Intn(20) {
		case 0:
			x.SetLen(source.Intn(n + 1))
		case 1:
			x.SetZero()
		case 2:
			if n > 0 {
				x.Set(reflect.Append(x, x.Index(source.Intn(n))))
			}
		}
	case reflect.Int, reflect.Int64:
		if source.Intn(60) == 0 {
			x.SetInt(int64(wrongNumbers[source.Intn(len(wrongNumbers))]))
		}
	case reflect.String:
		if source.Intn(40) == 0 {
			x.SetString("")
		}
	}
}

// P1, P21.1: whatever is handed in, there is an end, and the error that comes first.
func TestAnythingEnds(t *testing.T) {
	kinds := make(map[api.Errno]int)
	asked := func(m ir.Module, roots []int, budget int) {
		x, steps, e := Solve(m, roots, budget)
		want := ir.Check(m)
		if want != nil && (Height(m) != 0 || Bound(m) != 0) {
			t.Fatal("not well-formed", m, Height(m), Bound(m))
		}
		for i, f := range roots {
			if want == nil && (f < 0 || f >= len(m.Funcs)) {
				want = fault.At(api.ErrSymbol, i)
			}
		}
		kinds[fault.Kind(e)]++
		if want != nil && fault.Text(e) != fault.Text(want) || want == nil && e != nil && fault.Text(e) != "budget" {
			t.Fatal("got", fault.Text(e), "want", fault.Text(want), m, roots, budget)
		}
		if e != nil && (steps != 0 || !table.Equal(x, table.Table{})) {
			t.Fatal("something beside an error", x, steps, m, roots, budget)
		}
		if e == nil && steps > budget {
			t.Fatal("more steps than may be", steps, budget)
		}
	}
	some(t, 21, 1500, 3, func(source *rand.Rand, m ir.Module, roots []int) {
		budget := append(wrongNumbers, Bound(m))[source.Intn(len(wrongNumbers)+1)]
		other := slices.Clone(roots)
		spoilt(source, reflect.ValueOf(&other).Elem())
		asked(m, append(other, wrongNumbers[source.Intn(3)]), budget)
		asked(m, other, budget)
		bad := ir.Copy(m)
		spoilt(source, reflect.ValueOf(&bad).Elem())
		asked(bad, roots, budget)
		asked(bad, other, Bound(m))
	})
	if kinds[api.OK] < 500 || kinds[api.ErrSymbol] < 500 || kinds[api.ErrBudget] < 300 || len(kinds) < 8 {
		t.Error("too few", kinds)
	}
	for _, n := range wrongNumbers {
		asked(ir.Module{Funcs: []ir.Func{{Name: "main", Arity: n, Regs: n, Blocks: []ir.Block{{End: jump(n)}}}}}, set{n}, n)
		asked(five(), set{n}, n)
	}
}
