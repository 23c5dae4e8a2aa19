package annot

import (
	"fmt"
	"math"
	"math/rand"
	"reflect"
	"testing"

	"averment/fact"
	"averment/fault"
	"averment/ir"
	"averment/state"
	"averment/table"
	"averment/wire"
)

// lists goes through all lists in x, each with its spare room, the outer ones first.
func lists(x reflect.Value, each func(list reflect.Value)) {
	switch x.Kind() {
	case reflect.Slice:
		all := x.Slice(0, x.Cap())
		each(all)
		for i := range all.Len() {
			lists(all.Index(i), each)
		}
	case reflect.Struct:
		for i := range x.NumField() {
			lists(x.Field(i), each)
		}
	}
}

// roomy is equal to x, but each of its lists has spare room, in which something stands.
func roomy[T any](x T) T {
	fresh := reflect.New(reflect.TypeOf(x)).Elem()
	fresh.Set(withRoom(reflect.ValueOf(x)))
	return fresh.Interface().(T)
}

func withRoom(x reflect.Value) reflect.Value {
	fresh := reflect.New(x.Type()).Elem()
	switch x.Kind() {
	case reflect.Slice:
		all := reflect.MakeSlice(x.Type(), x.Len()+2, x.Len()+2)
		for i := range all.Len() {
			if i < x.Len() {
				all.Index(i).Set(withRoom(x.Index(i)))
			} else {
				all.Index(i).Set(junk(x.Type().Elem()))
			}
		}
		fresh.Set(all.Slice(0, x.Len()))
	case reflect.Struct:
		for i := range x.NumField() {
			fresh.Field(i).Set(withRoom(x.Field(i)))
		}
	default:
		fresh.Set(x)
	}
	return fresh
}

// junk is something of a type that no module and no Table has: lists are left out.
func junk(of reflect.Type) reflect.Value {
	x := reflect.New(of).Elem()
	switch of.Kind() {
	case reflect.Struct:
		for i := range of.NumField() {
			x.Field(i).Set(junk(of.Field(i).Type))
		}
	case reflect.Int, reflect.Int64:
		x.SetInt(-99)
	case reflect.Uint8:
		x.SetUint(99)
	case reflect.String:
		x.SetString("junk")
	case reflect.Bool:
		x.SetBool(true)
	}
	return x
}

// whole is all of x, with spare room.
func whole(x any) string {
	var text string
	lists(reflect.ValueOf(x), func(list reflect.Value) { text += fmt.Sprintln(list) })
	return text
}

// spoil lays junk all over the lists of x, the inner ones first.
func spoil(x any) {
	var all []reflect.Value
	lists(reflect.ValueOf(x), func(list reflect.Value) { all = append(all, list) })
	for i := len(all) - 1; i >= 0; i-- {
		for j := range all[i].Len() {
			all[i].Index(j).Set(junk(all[i].Type().Elem()))
		}
	}
}

// room is where a list lies.
type room struct{ from, to uintptr }

// rooms are where the lists of x lie.
func rooms(x any) []room {
	var all []room
	lists(reflect.ValueOf(x), func(list reflect.Value) {
		size := uintptr(list.Len()) * list.Type().Elem().Size()
		if size > 0 {
			all = append(all, room{list.Pointer(), list.Pointer() + size})
		}
	})
	return all
}

// apart tells whether no list of the answer lies where another one of it does, or one of other things.
func apart(answer any, things ...any) bool {
	mine := rooms(answer)
	var others []room
	for _, x := range things {
		others = append(others, rooms(x)...)
	}
	for i, a := range mine {
		for _, b := range append(mine[i+1:len(mine):len(mine)], others...) {
			if a.from < b.to && b.from < a.to {
				return false
			}
		}
	}
	return true
}

// answer is all that Read tells.
type answer struct {
	M      ir.Module
	X      table.Table
	Sparse bool
	E      string
}

// given is all that the calls are handed.
type given struct {
	M            ir.Module
	X, CutsAlone table.Table
	B, Broken    []byte
}

func handed() given {
	b := layOut(files()[0].pieces).bytes
	return given{roomy(two()), roomy(told()), roomy(table.Sparse(two(), told())), roomy(b), roomy(b[:len(b)-1])}
}

// calls are all calls that are handed lists, or answer some.
func calls() map[string]func(g given) any {
	write := func(m ir.Module, x table.Table, sparse bool) any {
		b, e := Write(m, x, sparse)
		return struct {
			B []byte
			E string
		}{b, fault.Text(e)}
	}
	read := func(b []byte) any {
		m, x, sparse, e := Read(b)
		return answer{m, x, sparse, fault.Text(e)}
	}
	return map[string]func(g given) any{
		"Write":               func(g given) any { return write(g.M, g.X, false) },
		"Write, sparse":       func(g given) any { return write(g.M, g.CutsAlone, true) },
		"Write with an error": func(g given) any { return write(g.M, g.X, true) },
		"Read":                func(g given) any { return read(g.B) },
		"Read with an error":  func(g given) any { return read(g.Broken) },
	}
}

// P18.4: what is handed in isn't changed or kept; answers are new memory, no two lists of which share any.
func TestMemory(t *testing.T) {
	for name, call := range calls() {
		g := handed()
		before := whole(g)
		answer := call(g)
		if whole(g) != before {
			t.Error(name, "changed what was handed in")
		}
		kept, told := call(g), fmt.Sprint(answer)
		if !apart(answer, g, kept) {
			t.Error(name, "shares its answer")
		}
		spoil(answer)
		if whole(g) != before || fmt.Sprint(kept) != told || fmt.Sprint(call(g)) != told {
			t.Error(name, "shares what it keeps")
		}
		spoil(g)
		if fmt.Sprint(kept) != told {
			t.Error(name, "keeps what was handed in")
		}
		if fmt.Sprint(call(handed())) != told {
			t.Error(name, "isn't told again")
		}
	}
}

// P18.4: no two lists of one answer share memory, though those of the Table that was laid did.
func TestListsAreApart(t *testing.T) {
	x := told()
	set, vals := []int{0, 1}, of(0, 1)
	s := state.State{Reached: true, Vals: vals, Sites: [][]int{set, set}}
	for b := range x.Funcs[0].Blocks {
		x.Funcs[0].Blocks[b] = table.Block{State: s, Live: set}
	}
	x.Cells, x.Funcs[1].Sum.Args, x.Imports[2].Args = vals, vals, vals
	b, e := Write(two(), x, false)
	if e != nil {
		t.Fatal(fault.Text(e))
	}
	m, y, _, e := Read(b)
	if e != nil || !table.Equal(x, y) {
		t.Fatal(fault.Text(e))
	}
	if !apart(answer{M: m, X: y}, b) {
		t.Error("Read's answer")
	}
}

// P18.4: a Writer's bytes and a Reader's are what they were, whoever else has some of them.
func TestReadersAndWriters(t *testing.T) {
	b := roomy([]byte{0x37, 0xec, 0x0a, 0x0a, 0x0a})
	r := wire.Read(b)
	c := r.Copy()
	spoil(b)
	if v, e := Take(r); v != fact.Any() || e != nil {
		t.Error(v, fault.Text(e))
	}
	if v, e := Take(r); v != fact.Of(5) || e != nil || r.End() != nil {
		t.Error(v, fault.Text(e))
	}
	if c.At() != 0 || c.Left() != 5 {
		t.Error("another Reader went on, too")
	}
	w := wire.New()
	Put(w, fact.Of(5))
	first := w.Bytes()
	Put(w, fact.Any())
	spoil(w.Bytes())
	if fmt.Sprintf("%x %x", first, w.Bytes()) != "ec0a0a0a ec0a0a0a37" {
		t.Errorf("%x %x", first, w.Bytes())
	}
}

// wrongNumbers are numbers that are hardly any right ones.
var wrongNumbers = []int{math.MinInt, -1, 0, 1, 5, 17, 25, 256, 4096, 4097, math.MaxInt}

// spoilt has something by chance where x has numbers; lists get shorter, or none, or some element twice.
func spoilt(source *rand.Rand, x reflect.Value) {
	switch x.Kind() {
	case reflect.Struct:
		for i := range x.NumField() {
			spoilt(source, x.Field(i))
		}
	case reflect.Slice:
		for i := range x.Len() {
			spoilt(source, x.Index(i))
		}
		switch n := x.Len(); source.Intn(12) {
		case 0:
			x.SetLen(source.Intn(n + 1))
		case 1:
			x.SetZero()
		case 2:
			if n > 0 {
				x.Set(reflect.Append(x, x.Index(source.Intn(n))))
			}
		}
	case reflect.Int, reflect.Int64:
		if source.Intn(30) == 0 {
			x.SetInt(int64(wrongNumbers[source.Intn(len(wrongNumbers))]))
		}
	case reflect.Bool:
		x.SetBool(x.Bool() != (source.Intn(30) == 0))
	}
}

// P1, P18.1: whatever is handed to Write, there is an end: table.Check's error, or a file that is read again.
func TestWriteOfAnything(t *testing.T) {
	source := rand.New(rand.NewSource(9))
	for range 3000 {
		f := someFile(t, source)
		m, x := ir.Copy(f.m), table.Copy(f.x)
		spoilt(source, reflect.ValueOf(&x).Elem())
		if source.Intn(3) == 0 {
			spoilt(source, reflect.ValueOf(&m).Elem())
		}
		b, e := Write(m, x, f.sparse)
		if want := table.Check(m, x, f.sparse); fault.Text(e) != fault.Text(want) || e != nil && len(b) > 0 {
			t.Fatal(fault.Text(e), fault.Text(want))
		}
		if e == nil {
			wantFile(t, file{about: "by chance", m: m, x: x, sparse: f.sparse}, b)
		}
	}
}

// P1: of any Value there is an end.
func TestPutOfAnything(t *testing.T) {
	source := rand.New(rand.NewSource(11))
	for range 20000 {
		v := someValue(source)
		spoilt(source, reflect.ValueOf(&v).Elem())
		w := wire.New()
		if e := Put(w, v); (e == nil) != fact.Right(v) || e != nil && (fault.Text(e) != "fact" || len(w.Bytes()) != 0) {
			t.Fatal(v, fault.Text(e), w.Bytes())
		}
	}
}
