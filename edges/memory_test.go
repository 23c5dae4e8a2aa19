package edges

import (
	"fmt"
	"math"
	"math/rand"
	"reflect"
	"slices"
	"testing"

	"averment/api"
	"averment/fault"
	"averment/ir"
	"averment/table"
)

// lists goes through all lists in x, each with its spare room, the outer ones first.
func lists(x reflect.Value, each func(list reflect.Value)) {
	switch x.Kind() {
	case reflect.Slice:
		all := x.Slice(0, x.Cap())
		each(all)
		for i := range all.Len() {
			lists(all.Index(i), each)
		}
	case reflect.Struct:
		for i := range x.NumField() {
			lists(x.Field(i), each)
		}
	}
}

// roomy is equal to x, but each of its lists has spare room, in which something stands.
func roomy[T any](x T) T {
	fresh := reflect.New(reflect.TypeOf(x)).Elem()
	fresh.Set(withRoom(reflect.ValueOf(x)))
	return fresh.Interface().(T)
}

func withRoom(x reflect.Value) reflect.Value {
	fresh := reflect.New(x.Type()).Elem()
	switch x.Kind() {
	case reflect.Slice:
		all := reflect.MakeSlice(x.Type(), x.Len()+2, x.Len()+2)
		for i := range all.Len() {
			if i < x.Len() {
				all.Index(i).Set(withRoom(x.Index(i)))
			} else {
				all.Index(i).Set(junk(x.Type().Elem()))
			}
		}
		fresh.Set(all.Slice(0, x.Len()))
	case reflect.Struct:
		for i := range x.NumField() {
			fresh.Field(i).Set(withRoom(x.Field(i)))
		}
	default:
		fresh.Set(x)
	}
	return fresh
}

// junk is something of a type that no module and no Table has: lists are left out.
func junk(of reflect.Type) reflect.Value {
	x := reflect.New(of).Elem()
	switch of.Kind() {
	case reflect.Struct:
		for i := range of.NumField() {
			x.Field(i).Set(junk(of.Field(i).Type))
		}
	case reflect.Int, reflect.Int64:
		x.SetInt(-99)
	case reflect.String:
		x.SetString("junk")
	case reflect.Bool:
		x.SetBool(true)
	}
	return x
}

// whole is all of x, with spare room.
func whole(x any) string {
	var text string
	lists(reflect.ValueOf(x), func(list reflect.Value) { text += fmt.Sprintln(list) })
	return text
}

// spoil lays junk all over the lists of x, the inner ones first.
func spoil(x any) {
	var all []reflect.Value
	lists(reflect.ValueOf(x), func(list reflect.Value) { all = append(all, list) })
	for _, list := range slices.Backward(all) {
		for j := range list.Len() {
			list.Index(j).Set(junk(list.Type().Elem()))
		}
	}
}

// P19.5: what is handed in isn't changed, its spare room neither, and not kept: the error stays as it was.
func TestMemory(t *testing.T) {
	for _, c := range append(changes(), change{"all follows", "ok", false, func(*table.Table) {}}) {
		x := following()
		c.change(&x)
		m, x := roomy(calling()), roomy(x)
		before := whole(m) + whole(x)
		e, again := Check(m, x), Check(m, x)
		if whole(m)+whole(x) != before {
			t.Error(c.about, "changed what was handed in")
		}
		spoil(m)
		spoil(x)
		// The places are new memory, whoever changes them.
		spoil(fault.Path(again))
		if fault.Text(e) != c.want || fault.Text(again) != c.want {
			t.Error(c.about, fault.Text(e), fault.Text(again))
		}
	}
}

// P19.5: lists that are handed in may share what they have.
func TestSharedLists(t *testing.T) {
	x := following()
	shared := x.Funcs[0].Blocks[1]
	x.Funcs[0].Blocks[2] = shared
	x.Funcs[1].Blocks[0].Live = shared.Live
	before := whole(x)
	wantEdge(t, "two blocks that share all", calling(), x, "ok")
	if whole(x) != before {
		t.Error("changed what was handed in")
	}
}

// wrongNumbers are numbers that are hardly any right ones.
var wrongNumbers = []int{math.MinInt, -1, 0, 1, 5, 17, 25, 4096, 4097, math.MaxInt}

// spoilt has something by chance where x has numbers; lists get shorter, or none, or some element twice.
func spoilt(source *rand.Rand, x reflect.Value) {
	switch x.Kind() {
	case reflect.Struct:
		for i := range x.NumField() {
			spoilt(source, x.Field(i))
		}
	case reflect.Slice:
		for i := range x.Len() {
			spoilt(source, x.Index(i))
		}
		switch n := x.Len(); source.Intn(20) {
		case 0:
			x.SetLen(source.Intn(n + 1))
		case 1:
			x.SetZero()
		case 2:
			if n > 0 {
				x.Set(reflect.Append(x, x.Index(source.Intn(n))))
			}
		}
	case reflect.Int, reflect.Int64:
		if source.Intn(40) == 0 {
			x.SetInt(int64(wrongNumbers[source.Intn(len(wrongNumbers))]))
		}
	case reflect.Bool:
		x.SetBool(x.Bool() != (source.Intn(20) == 0))
	}
}

// P1, P19.1: whatever is handed in, there is an end: table.Check's error ahead of all else, or ErrEdge, or nil.
func TestAnythingEnds(t *testing.T) {
	right := 0
	asked := func(m ir.Module, x table.Table) {
		e := Check(m, x)
		if wrong := table.Check(m, x, false); wrong != nil {
			if fault.Text(e) != fault.Text(wrong) {
				t.Fatal(fault.Text(e), fault.Text(wrong))
			}
			return
		}
		right++
		if e != nil && !fault.Is(e, api.ErrEdge) {
			t.Fatal(fault.Text(e))
		}
	}
	some(t, 23, 700, 3, func(source *rand.Rand, m ir.Module, x table.Table) {
		bad, y := ir.Copy(m), table.Copy(x)
		spoilt(source, reflect.ValueOf(&y).Elem())
		asked(m, y)
		spoilt(source, reflect.ValueOf(&bad).Elem())
		asked(bad, x)
		asked(bad, y)
	})
	if right < 50 {
		t.Error("too few are right", right)
	}
	asked(ir.Module{}, following())
	asked(calling(), table.Table{})
	for _, n := range wrongNumbers {
		m := ir.Module{Funcs: []ir.Func{{Name: "main", Arity: n, Regs: n, Blocks: []ir.Block{{End: jump(n)}}}}}
		asked(m, table.Table{Funcs: []table.Func{{Blocks: make([]table.Block, 1)}}})
	}
}

// most is a module with as much as there can be: 3648 sites.
func most() ir.Module {
	m := ir.Module{Cells: make([]int64, api.MaxCells)}
	block := ir.Block{Insns: slices.Repeat([]ir.Insn{{Op: ir.Input}}, api.MaxInsns-1), End: branch(0, 11, 0)}
	for f := range api.MaxFuncs {
		block := ir.Block{Insns: append(slices.Clone(block.Insns), call(7, (f+1)%api.MaxFuncs, 0, 1, 2, 3)), End: block.End}
		m.Funcs = append(m.Funcs, fn(fmt.Sprint("f", f), api.MaxArgs, api.MaxRegs, slices.Repeat([]ir.Block{block}, api.MaxBlocks)...))
	}
	return m
}

// P1, P19.4: however much there is, there is an end.
func TestMost(t *testing.T) {
	m := most()
	x := table.Any(m)
	wantEdge(t, "Any", m, x, "ok")
	last := x.Funcs[23].Blocks
	last[11].Live = set{0, 1, 2, 3, 4, 5, 6}
	// Register 7 is got in each block, so that it counts ahead of none.
	wantEdge(t, "a register less", m, x, "ok")
	last[11].Live = nil
	wantEdge(t, "no register", m, x, "1.23.11 edge")
	// Of the last block's own Call that is the site, which its Edge to itself has, ahead of its registers.
	last[11].State.Sites[7] = below(3647)
	wantEdge(t, "all but the last site", m, x, "1.23.11.12 edge")
}

// below is the set of all numbers below n.
func below(n int) set {
	s := make(set, n)
	for i := range s {
		s[i] = i
	}
	return s
}
