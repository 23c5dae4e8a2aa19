package merge_test

import (
	"bytes"
	"fmt"
	"math/rand"
	"slices"
	"testing"

	"averment/annot"
	"averment/code"
	"averment/edges"
	"averment/fact"
	"averment/fault"
	"averment/flow"
	"averment/ir"
	"averment/link"
	"averment/reload"
	"averment/table"
)

// written is the file of a Table in normal form.
func written(t *testing.T, m ir.Module, x table.Table, sparse bool) []byte {
	t.Helper()
	b, e := annot.Write(m, x, sparse)
	if e != nil {
		t.Fatal(fault.Text(e))
	}
	return b
}

// files are both files of a Table: the whole one and the sparse one.
func files(t *testing.T, m ir.Module, x table.Table) [][]byte {
	t.Helper()
	return [][]byte{written(t, m, x, false), written(t, m, table.Sparse(m, x), true)}
}

// loaded is the Table of a file, as text.
func loaded(b []byte) string {
	_, x, _, e := reload.Load(b)
	return fmt.Sprint(x, fault.Text(e))
}

// wantMerge: Merge tells just these bytes, which are taken.
func wantMerge(t *testing.T, about string, a, b, want []byte) {
	t.Helper()
	got := merging(a, b)
	if got.E != "ok" || !bytes.Equal(got.B, want) {
		t.Errorf("%s: got %s and %d bytes, want %d: %s", about, got.E, len(got.B), len(want), loaded(got.B))
	}
	if _, _, _, e := reload.Load(got.B); e != nil {
		t.Errorf("%s: not taken: %s", about, fault.Text(e))
	}
}

// P23.1, P23.2: files, whole and sparse, come to the whole file of both.
func TestMerge(t *testing.T) {
	a, s := counting()
	b, u := stepping()
	whole, other := written(t, linked(t, a, b), both(), false), written(t, linked(t, b, a), otherBoth(), false)
	for i, first := range files(t, a, s) {
		for j, second := range files(t, b, u) {
			about := fmt.Sprint("sparse ", i, j)
			wantMerge(t, about, first, second, whole)
			wantMerge(t, about+", the other way round", second, first, other)
		}
	}
	for _, none := range [][]byte{{0x41, 0x46, 1, 0, 6, 0x41, 0x56, 1, 0, 0, 0}, {0x41, 0x46, 1, 1, 6, 0x41, 0x56, 1, 0, 0, 0}} {
		for _, file := range files(t, a, s) {
			wantMerge(t, "nothing behind", file, none, written(t, a, s, false))
			wantMerge(t, "nothing ahead", none, file, written(t, a, s, false))
		}
		wantMerge(t, "nothing", none, none, []byte{0x41, 0x46, 1, 0, 6, 0x41, 0x56, 1, 0, 0, 0})
	}
}

// wantRefused: Merge tells that error, and nothing else.
func wantRefused(t *testing.T, about string, a, b []byte, want string) {
	t.Helper()
	if got := merging(a, b); got.E != want || got.B != nil {
		t.Errorf("%s: got %v, want %s", about, got, want)
	}
}

// P23.1: bytes that are no file, and files that aren't taken: of the first one at 0, of the second one at 1, ahead of all else.
func TestNotTaken(t *testing.T) {
	a, s := counting()
	b, u := stepping()
	module, e := code.Write(a)
	if e != nil {
		t.Fatal(fault.Text(e))
	}
	first, second := written(t, a, s, false), written(t, b, u, false)
	little := table.Copy(s)
	little.Funcs[0].Blocks[1].Live = set{1}
	unmet := table.Copy(u)
	unmet.Cells[1] = fact.Of(-1)
	for _, c := range []struct {
		about, want string
		file        []byte
	}{
		{"nothing", "0 short", nil},
		{"a module", "0 form", module},
		{"neither whole nor sparse", "3 tag", []byte{0x41, 0x46, 1, 2, 6, 0x41, 0x56, 1, 0, 0, 0}},
		{"a byte too many", "11 form", []byte{0x41, 0x46, 1, 0, 6, 0x41, 0x56, 1, 0, 0, 0, 9}},
		{"a Value that no number has", "12 fact", []byte{0x41, 0x46, 1, 0, 7, 0x41, 0x56, 1, 1, 5, 0, 0, 0x70}},
		{"registers that count", "1.0.1 edge", written(t, a, little, false)},
		{"registers that count, sparse", "1.0.1 edge", written(t, a, table.Sparse(a, little), true)},
		{"a cell that gets something else", "1.0.0.1 edge", written(t, b, unmet, false)},
		{"a cell that gets something else, sparse", "1.0.0.1 edge", written(t, b, table.Sparse(b, unmet), true)},
	} {
		wantRefused(t, c.about, c.file, second, "0."+c.want)
		wantRefused(t, c.about, first, c.file, "1."+c.want)
		wantRefused(t, c.about+", both", c.file, c.file, "0."+c.want)
		wantRefused(t, c.about+", ahead of no file", c.file, nil, "0."+c.want)
		// It is told ahead of what link.Link says of a module with itself.
		wantRefused(t, c.about+", of one that there is twice", second, c.file, "1."+c.want)
	}
	for n := range first {
		_, _, _, e := reload.Load(first[:n])
		wantRefused(t, fmt.Sprint("cut short behind ", n), first[:n], second, fault.Text(fault.At(e, 0)))
		wantRefused(t, fmt.Sprint("cut short behind ", n), second, first[:n], fault.Text(fault.At(e, 1)))
	}
}

// P23.1: errors of Join, at its places.
func TestNotJoined(t *testing.T) {
	a, s := counting()
	b, u := stepping()
	first, second := written(t, a, s, false), written(t, b, table.Sparse(b, u), true)
	wantRefused(t, "twice", first, first, "0 twice")
	wantRefused(t, "twice, the second one", written(t, linked(t, a, b), both(), false), second, "0 twice")

	clash := ir.Module{Imports: []ir.Import{{Name: "a"}, {Name: "put", Arity: 2}}}
	told := table.Table{Imports: []flow.Sum{idle, idle}}
	wantRefused(t, "clash at 0", first, written(t, clash, told, false), "0.1 clash")
	clash.Imports[1] = ir.Import{Name: "begin", Arity: 4}
	wantRefused(t, "clash at 1", second, written(t, clash, told, false), "1.1 clash")

	much := ir.Module{Cells: make([]int64, 16)}
	wantRefused(t, "size", first, written(t, much, table.None(much), false), "size")

	// step is told to take no more than 0 to 8 as its second argument, and gets -9 to 9.
	few := table.Copy(u)
	few.Funcs[0].Sum.Args[1] = from(0, 8)
	wantRefused(t, "implied at 0", first, written(t, b, few, false), "0.2 implied")
	wantRefused(t, "implied at 1", written(t, b, few, false), first, "1.2 implied")
	// count is called by stepping; here nobody calls it, so that it is told to take nothing.
	nobody := solved(t, a)
	wantRefused(t, "not Called", written(t, a, nobody, false), second, "1.3 implied")
	wantRefused(t, "not Called, the other way round", second, written(t, a, nobody, false), "0.3 implied")
}

// P23.1: one that calls g with 0 to 3, and one whose g is told to take 0 to 2, or as much as that.
func TestWhatIsTaken(t *testing.T) {
	a := ir.Module{Funcs: []ir.Func{fn("main", 0, 2, block(back(1), input(0), number(1, 3), two(ir.And, 0, 0, 1), call(1, 1, 0)))},
		Imports: []ir.Import{{Name: "g", Arity: 1}}}
	b := ir.Module{Funcs: []ir.Func{fn("g", 1, 1, block(back(0)))}}
	first := written(t, a, solved(t, a), false)
	taking := func(v fact.Value) []byte {
		x := solved(t, b)
		x.Funcs[0].Sum.Called, x.Funcs[0].Sum.Args = true, []fact.Value{v}
		return written(t, b, grown(t, b, x), true)
	}
	wantRefused(t, "0 to 2", first, taking(from(0, 2)), "0.1 implied")
	wantRefused(t, "0 to 2, the other way round", taking(from(0, 2)), first, "1.1 implied")
	wantRefused(t, "1 to 9", first, taking(from(1, 9)), "0.1 implied")
	for _, v := range []fact.Value{from(0, 3), from(-1, 4), fact.Any()} {
		if got := merging(first, taking(v)); got.E != "ok" {
			t.Error(v, got)
		}
		if got := merging(taking(v), first); got.E != "ok" {
			t.Error(v, got)
		}
	}
}

// P23.2, P8: what Merge answers is taken; its module is link.Link of both, its Table what Join tells of both; else it is a named error.
func TestWhatIsMergedIsTaken(t *testing.T) {
	taken, implied, open := 0, 0, 0
	some(t, 30, 800, 2, true, func(source *rand.Rand, all []ir.Module, told []table.Table) {
		first, second := files(t, all[0], told[0])[source.Intn(2)], files(t, all[1], told[1])[source.Intn(2)]
		got := merging(first, second)
		a, s, _, e := reload.Load(first)
		b, u, _, f := reload.Load(second)
		if e != nil || f != nil {
			t.Fatal(fault.Text(e), fault.Text(f))
		}
		want, _ := modelled(a, s, b, u)
		if got.E != want.E {
			t.Fatal(all, told, got, want)
		}
		if got.E != "ok" {
			if got.B != nil {
				t.Fatal("something beside an error", got)
			}
			implied++
			return
		}
		m, x, _, e := reload.Load(got.B)
		if e != nil || !ir.Equal(m, want.M) || !table.Equal(x, want.X) || edges.Check(m, x) != nil {
			t.Fatal(all, told, fault.Text(e), m, x, want)
		}
		if whole, e := annot.Write(m, x, false); e != nil || !bytes.Equal(whole, got.B) {
			t.Fatal("not the whole file", all, told, got)
		}
		taken++
		if len(m.Imports) > 0 {
			open++
		}
	})
	if taken < 150 || implied < 100 || open < 50 {
		t.Error("too few", taken, implied, open)
	}
}

// threeWays are three files, the first two put together first, and the last two.
func threeWays(a, b, c []byte) (left, right merged) {
	left = merging(a, b)
	if left.E == "ok" {
		left = merging(left.B, c)
	}
	right = merging(b, c)
	if right.E == "ok" {
		right = merging(a, right.B)
	}
	return left, right
}

// P23.3, P8: it hangs on no grouping: if either two can be put together first, they come to the same bytes.
func TestGrouping(t *testing.T) {
	same, open, none, alone := 0, 0, 0, 0
	some(t, 31, 700, 3, true, func(source *rand.Rand, all []ir.Module, told []table.Table) {
		var f [][]byte
		for i, m := range all {
			f = append(f, files(t, m, told[i])[source.Intn(2)])
		}
		left, right := threeWays(f[0], f[1], f[2])
		switch {
		case left.E == "ok" && right.E == "ok":
			if !bytes.Equal(left.B, right.B) {
				t.Fatal(all, told, left, right)
			}
			m, x, _, e := reload.Load(left.B)
			if e != nil || !ir.Equal(m, linked(t, all...)) || edges.Check(m, x) != nil {
				t.Fatal(all, told, fault.Text(e))
			}
			same++
			if len(m.Imports) > 0 {
				open++
			}
		case left.E != "ok" && right.E != "ok":
			none++
		default:
			alone++
		}
	})
	if same < 200 || open < 100 || none < 150 {
		t.Error("too few", same, open, none, alone)
	}
}

// P23.3: three by hand: counting, stepping, and one with put that calls begin.
func TestThreeByHand(t *testing.T) {
	a, s := counting()
	b, u := stepping()
	c := ir.Module{Cells: []int64{0}, Funcs: []ir.Func{
		fn("main", 0, 1, block(back(0), call(0, 2))),
		fn("put", 1, 2, block(back(1), output(0), store(0, 0), number(1, 4))),
	}, Imports: []ir.Import{{Name: "begin"}}}
	x := solved(t, c, 1)
	want, e := link.Link(linked(t, a, b), c)
	if e != nil {
		t.Fatal(fault.Text(e))
	}
	// counting has 6 sites and stepping 8: main's register has 14, its call 15, put's registers 16 and 17.
	told := both()
	told.Cells = append(told.Cells, fact.Any())
	told.Imports = nil
	any := fact.Any()
	told.Funcs = append(told.Funcs,
		table.Func{Sum: returning(called(), any), Blocks: []table.Block{{State: having(fact.Of(0), set{14})}}},
		table.Func{Sum: returning(called(any), fact.Of(4)), Blocks: []table.Block{{State: having(any, set{16}, fact.Of(0), set{17}), Live: set{0}}}})
	whole := written(t, want, told, false)
	for n := range 8 {
		first, second, third := files(t, a, s)[n&1], files(t, b, u)[n>>1&1], files(t, c, x)[n>>2]
		left, right := threeWays(first, second, third)
		if left.E != "ok" || right.E != "ok" || !bytes.Equal(left.B, whole) || !bytes.Equal(right.B, whole) {
			t.Error(n, "left", left.E, loaded(left.B), "right", right.E, loaded(right.B), "want", told)
		}
	}
}

// P23.3: one grouping may be alone, where an import that nobody calls becomes one that does not Return; then the other one is a named error.
func TestOneGroupingAlone(t *testing.T) {
	of := func(s flow.Sum) []byte {
		m := ir.Module{Imports: []ir.Import{{Name: "g", Arity: 1}}}
		return written(t, m, table.Table{Imports: []flow.Sum{s}}, false)
	}
	g := ir.Module{Funcs: []ir.Func{fn("g", 1, 1, block(back(0)))}}
	callee := written(t, g, solved(t, g, 0), false)
	any := fact.Any()
	for _, c := range []struct {
		about       string
		a, b        flow.Sum
		left, right string
	}{
		{"both Return", returning(called(any), any), returning(called(any), any), "ok", "ok"},
		{"the first isn't Called, and Returns", returning(idle, any), returning(called(any), any), "ok", "ok"},
		{"the first isn't Called, and doesn't Return", idle, returning(called(any), any), "0.0 implied", "ok"},
		{"neither is Called", idle, idle, "ok", "ok"},
		{"the second doesn't Return", returning(called(any), any), called(any), "0.0 implied", "0.0 implied"},
	} {
		left, right := threeWays(of(c.a), of(c.b), callee)
		if left.E != c.left || right.E != c.right || left.E == right.E && !bytes.Equal(left.B, right.B) {
			t.Error(c.about, left, right)
		}
	}
}

// P23.2, P1: files with each byte made another one: an error of reload.Load, of the others, or something that is taken.
func TestSpoiltFiles(t *testing.T) {
	a, s := counting()
	b, u := stepping()
	first, second := files(t, a, s)[1], files(t, b, u)[1]
	errors, taken := 0, 0
	for i := range first {
		for _, n := range []byte{1, 2, 4, 8, 16, 32, 64, 128, 255} {
			spoilt := slices.Clone(first)
			spoilt[i] ^= n
			for _, got := range []merged{merging(spoilt, second), merging(second, spoilt)} {
				if got.E != "ok" {
					errors++
					continue
				}
				if _, _, _, e := reload.Load(got.B); e != nil {
					t.Fatal(i, n, "not taken", fault.Text(e))
				}
				taken++
			}
			_, _, _, e := reload.Load(spoilt)
			if got := merging(spoilt, second).E; e != nil && got != fault.Text(fault.At(e, 0)) {
				t.Fatal(i, n, got, fault.Text(e))
			}
		}
	}
	if errors < 1000 || taken < 20 {
		t.Error("too few", errors, taken)
	}
}
