package reload

import (
	"bytes"
	"fmt"
	"math/rand"
	"slices"
	"testing"

	"averment/annot"
	"averment/api"
	"averment/cfg"
	"averment/code"
	"averment/edges"
	"averment/fact"
	"averment/fault"
	"averment/ir"
	"averment/span"
	"averment/state"
	"averment/table"
	"averment/vm"
)

// loaded is all that Load tells: E is its error's text.
type loaded struct {
	M      ir.Module
	X      table.Table
	Counts Counts
	E      string
}

func loadOf(b []byte) loaded {
	m, x, counts, e := Load(b)
	return loaded{m, x, counts, fault.Text(e)}
}

// isBare tells whether nothing but an error is told.
func (l loaded) isBare() bool { return fmt.Sprint(l) == fmt.Sprint(loaded{E: l.E}) }

// written is the file of a Table in normal form.
func written(t *testing.T, m ir.Module, x table.Table, sparse bool) []byte {
	t.Helper()
	b, e := annot.Write(m, x, sparse)
	if e != nil {
		t.Fatal(fault.Text(e))
	}
	return b
}

// P20.1, P20.3: files, whole and sparse.
func TestLoad(t *testing.T) {
	m := joining()
	counts := Counts{Insns: 7, Cells: 2, Begins: 2, Edges: 7, Calls: 1, Stores: 1, Returns: 2, Lives: 8}
	if got := loadOf(written(t, m, joined(), false)); fmt.Sprint(got) != fmt.Sprint(loaded{m, joined(), counts, "ok"}) {
		t.Error("whole:", got)
	}
	counts.Edges, counts.Lives = 2, 3
	if got := loadOf(written(t, m, bare(), true)); fmt.Sprint(got) != fmt.Sprint(loaded{m, joined(), counts, "ok"}) {
		t.Error("sparse:", got)
	}
	for _, how := range []byte{0, 1} {
		if got := loadOf([]byte{0x41, 0x46, 1, how, 6, 0x41, 0x56, 1, 0, 0, 0}); fmt.Sprint(got) != fmt.Sprint(loaded{E: "ok"}) {
			t.Error("the module without anything:", got)
		}
	}
}

// wantRefused: Load tells that error, and nothing else.
func wantRefused(t *testing.T, about string, b []byte, want string) {
	t.Helper()
	if got := loadOf(b); got.E != want || !got.isBare() {
		t.Errorf("%s: got %v, want %s", about, got, want)
	}
}

// P20.1: bytes that are no file: errors of annot.Read, at their places in the bytes, and nothing else.
func TestNoFile(t *testing.T) {
	whole := written(t, joining(), joined(), false)
	module, e := code.Write(joining())
	if e != nil {
		t.Fatal(fault.Text(e))
	}
	for _, c := range []struct {
		about, want string
		b           []byte
	}{
		{"nothing", "0 short", nil},
		{"two bytes", "0 short", []byte{0x41, 0x46}},
		{"a module", "0 form", module},
		{"a later form", "0 form", []byte{0x41, 0x46, 2, 0, 6, 0x41, 0x56, 1, 0, 0, 0}},
		{"neither whole nor sparse", "3 tag", []byte{0x41, 0x46, 1, 2, 6, 0x41, 0x56, 1, 0, 0, 0}},
		{"no module", "4 short", []byte{0x41, 0x46, 1, 0}},
		{"a module that is cut short", "10 short", []byte{0x41, 0x46, 1, 0, 5, 0x41, 0x56, 1, 0, 0}},
		{"a module with a byte too many", "11 form", []byte{0x41, 0x46, 1, 0, 7, 0x41, 0x56, 1, 0, 0, 0, 0}},
		{"a byte too many", "11 form", []byte{0x41, 0x46, 1, 0, 6, 0x41, 0x56, 1, 0, 0, 0, 0}},
		{"a cell that no number has", "12 fact", []byte{0x41, 0x46, 1, 0, 7, 0x41, 0x56, 1, 1, 5, 0, 0, 0x70}},
		{"too long by one", fmt.Sprint(len(whole), " form"), append(slices.Clone(whole), 0)},
	} {
		wantRefused(t, c.about, c.b, c.want)
	}
	for n := range whole {
		_, _, _, e := annot.Read(whole[:n])
		if e == nil {
			t.Fatal("cut short", n)
		}
		wantRefused(t, fmt.Sprint("cut short behind ", n), whole[:n], fault.Text(e))
	}
}

// P20.1: files of Tables that don't follow: the error of Fill, with its places.
func TestWhatDoesntFollow(t *testing.T) {
	m := joining()
	for _, c := range changes() {
		x := joined()
		c.change(&x)
		wantRefused(t, c.about+", whole", written(t, m, x, false), c.whole)
		if c.sparse != "" {
			wantRefused(t, c.about+", sparse", written(t, m, table.Sparse(m, x), true), c.sparse)
		}
	}
	wantRefused(t, "None", written(t, m, table.None(m), false), "1.0 edge")
	wantRefused(t, "None, sparse", written(t, m, table.None(m), true), "1.0 edge")
	wantRefused(t, "a loop whose head tells too little", written(t, counting(), counted(0, 9), true), "1.0.2.0 edge")
	wantRefused(t, "a sparse Table in a whole file", written(t, m, bare(), false), "1.0.0.1 edge")
}

// P20.1: Load is annot.Read, and Fill of that, of files by chance.
func TestLoadIsReadAndFill(t *testing.T) {
	taken := 0
	some(t, 24, 400, 2, func(_ *rand.Rand, m ir.Module, x table.Table) {
		for _, sparse := range []bool{false, true} {
			if sparse {
				x = table.Sparse(m, x)
			}
			want := loaded{E: fill(m, x, sparse).E}
			if want.E == "ok" {
				told := fill(m, x, sparse)
				want, taken = loaded{m, told.X, told.Counts, "ok"}, taken+1
			}
			if got := loadOf(written(t, m, x, sparse)); fmt.Sprint(got) != fmt.Sprint(want) {
				t.Fatal("got", got, "want", want)
			}
		}
	})
	if taken < 500 {
		t.Error("too few", taken)
	}
}

// P20.3, P6: the sparse file yields what is within what the whole one yields, and the same at cut points, of cells and Sums.
func TestBothFiles(t *testing.T) {
	follow := 0
	some(t, 25, 500, 2, func(_ *rand.Rand, m ir.Module, x table.Table) {
		if edges.Check(m, x) != nil {
			return
		}
		follow++
		whole, cuts := loadOf(written(t, m, x, false)), loadOf(written(t, m, table.Sparse(m, x), true))
		if whole.E != "ok" || cuts.E != "ok" || !ir.Equal(whole.M, m) || !ir.Equal(cuts.M, m) || !table.Equal(whole.X, x) || !table.Within(cuts.X, x) {
			t.Fatal(m, x, whole, cuts)
		}
		// What is the same at cut points, of cells and Sums is the same once all else is left out.
		if !table.Equal(table.Sparse(m, cuts.X), table.Sparse(m, x)) {
			t.Fatal(m, x, cuts)
		}
	})
	if follow < 500 {
		t.Error("too few", follow)
	}
}

// mayBe are the errors that Load may have.
var mayBe = []api.Errno{api.ErrShort, api.ErrForm, api.ErrRange, api.ErrTag, api.ErrFact, api.ErrSize, api.ErrName, api.ErrSymbol, api.ErrArity, api.ErrReg, api.ErrLabel, api.ErrEdge}

// whatever tells whether bytes are taken. If they are, all follows, and is so; if they aren't, there is an error and nothing else.
func whatever(t *testing.T, source *rand.Rand, b []byte) bool {
	t.Helper()
	m, x, counts, e := Load(b)
	got := loaded{m, x, counts, fault.Text(e)}
	if e != nil {
		if !slices.Contains(mayBe, fault.Kind(e)) || !got.isBare() {
			t.Fatalf("%x: %v", b, got)
		}
		return false
	}
	if e := edges.Check(got.M, got.X); e != nil {
		t.Fatalf("%x: taken, but it doesn't follow: %s", b, fault.Text(e))
	}
	_, told, sparse, _ := annot.Read(b)
	if !table.Equal(told, got.X) && !(sparse && table.Equal(told, table.Sparse(got.M, got.X))) {
		t.Fatalf("%x: yields %v, tells %v", b, got.X, told)
	}
	if again := written(t, got.M, told, sparse); !bytes.Equal(again, b) {
		t.Fatalf("%x: written again %x", b, again)
	}
	isSo(t, source, got.M, got.X)
	return true
}

// isSo runs machines of a closed module, and holds what they do against what is told.
func isSo(t *testing.T, source *rand.Rand, m ir.Module, x table.Table) int {
	t.Helper()
	if len(m.Imports) > 0 {
		return 0
	}
	looked := 0
	for f := range m.Funcs {
		args := someNumbers(source, m.Funcs[f].Arity)
		if !x.Funcs[f].Sum.Called || !slices.EqualFunc(x.Funcs[f].Sum.Args, args, fact.Has) {
			continue
		}
		v, e := vm.Start(m, f, args, someNumbers(source, 4))
		if e != nil {
			t.Fatal(fault.Text(e))
		}
		for range 60 {
			if !stands(m, x, v) {
				t.Fatal("it isn't so", m, x, v.Frames(), v.Cells())
			}
			looked++
			if !v.Step() {
				break
			}
		}
	}
	return looked
}

// stands tells whether a machine stands as it is told to.
func stands(m ir.Module, x table.Table, v *vm.Machine) bool {
	frames := v.Frames()
	if !slices.EqualFunc(x.Cells, v.Cells(), fact.Has) {
		return false
	}
	if v.How() != vm.Running {
		return true
	}
	fr := frames[len(frames)-1]
	told, block := x.Funcs[fr.Func], m.Funcs[fr.Func].Blocks[fr.Block]
	if fr.Insn == 0 && !state.Has(told.Blocks[fr.Block].State, fr.Regs, fr.Last) {
		return false
	}
	if fr.Insn < len(block.Insns) || block.End.Op != ir.Return {
		return true
	}
	return told.Sum.Returns && fact.Has(told.Sum.Result, fr.Regs[block.End.A])
}

// P20.2, P5: files each byte of which is made each other one.
func TestEachByteOtherwise(t *testing.T) {
	all := counted(span.Least, span.Greatest)
	open := ir.Module{Funcs: []ir.Func{fn("f", 0, 1, block(back(0), call(0, 1, 0)))}, Imports: []ir.Import{{Name: "g", Arity: 1}}}
	for about, file := range map[string][]byte{
		"whole":            written(t, joining(), joined(), false),
		"sparse":           written(t, joining(), bare(), true),
		"Any":              written(t, joining(), table.Any(joining()), false),
		"a sparse loop":    written(t, counting(), all, true),
		"a whole loop":     written(t, counting(), fill(counting(), all, true).X, false),
		"it calls imports": written(t, open, table.Any(open), false),
	} {
		source := rand.New(rand.NewSource(26))
		if !whatever(t, source, file) {
			t.Fatal(about, "isn't taken")
		}
		taken, edge := 0, 0
		for at := range file {
			for c := range 256 {
				other := slices.Clone(file)
				other[at] = byte(c)
				if bytes.Equal(other, file) {
					continue
				}
				if whatever(t, source, other) {
					taken++
				} else if _, _, _, e := Load(other); fault.Is(e, api.ErrEdge) {
					edge++
				}
			}
		}
		if taken < 20 || edge < 20 {
			t.Error(about, "too few", taken, edge)
		}
	}
}

// P20.2, P5: files by chance with some bytes otherwise, put in, or left out.
func TestWhateverBytes(t *testing.T) {
	source := rand.New(rand.NewSource(27))
	taken := 0
	some(t, 28, 1200, 1, func(by *rand.Rand, m ir.Module, x table.Table) {
		sparse := by.Intn(2) == 0
		if sparse {
			x = table.Sparse(m, x)
		}
		b := written(t, m, x, sparse)
		for range 4 {
			at := by.Intn(len(b))
			other := slices.Clone(b)
			switch by.Intn(5) {
			case 0:
				other = slices.Delete(other, at, at+1)
			case 1:
				other = slices.Insert(other, at, byte(by.Intn(256)))
			case 2:
				other[at] ^= 1 << by.Intn(8)
			default:
				other[at] = byte(by.Intn(256))
			}
			if whatever(t, source, other) {
				taken++
				b = other
			}
		}
		trash := make([]byte, by.Intn(40))
		by.Read(trash)
		whatever(t, source, append([]byte{0x41, 0x46, 1, byte(by.Intn(2)), 9, 0x41, 0x56, 1, 0, 0, 1, 1, 'g', 1}, trash...))
	})
	if taken < 500 {
		t.Error("too few", taken)
	}
}

// P20.2, P5: whatever is taken is so on every run, also at blocks of which nothing was told.
func TestWhatIsTakenIsSo(t *testing.T) {
	looked := 0
	some(t, 29, 1500, 0, func(source *rand.Rand, m ir.Module, x table.Table) {
		for _, sparse := range []bool{false, true} {
			if sparse {
				x = table.Sparse(m, x)
			}
			if got := fill(m, x, sparse); got.E == "ok" {
				looked += isSo(t, source, m, got.X)
			}
		}
	})
	if looked < 20000 {
		t.Error("too few", looked)
	}
}

// P20.2, P5: registers that don't count by what was made don't: with another number there a run goes on as it did.
func TestWhatDoesntCount(t *testing.T) {
	ended := 0
	some(t, 30, 500, 0, func(source *rand.Rand, m ir.Module, x table.Table) {
		got := fill(m, table.Sparse(m, x), true)
		if got.E != "ok" || !got.X.Funcs[0].Sum.Called {
			return
		}
		args := someNumbers(source, m.Funcs[0].Arity)
		if !slices.EqualFunc(got.X.Funcs[0].Sum.Args, args, fact.Has) {
			return
		}
		v, e := vm.Start(m, 0, args, someNumbers(source, 8))
		if e != nil {
			t.Fatal(fault.Text(e))
		}
		want, isEnd := end(v.Copy())
		for range 100 {
			frames := v.Frames()
			if v.How() != vm.Running {
				break
			}
			fr := frames[len(frames)-1]
			for r := range fr.Regs {
				if fr.Insn == 0 && !slices.Contains(got.X.Funcs[fr.Func].Blocks[fr.Block].Live, r) {
					v.Poke(r, someNumber(source))
				}
			}
			v.Step()
		}
		if now, _ := end(v); isEnd && now != want {
			t.Fatal(m, got, now, want)
		}
		if isEnd {
			ended++
		}
	})
	if ended < 200 {
		t.Error("too few", ended)
	}
}

// end runs a machine, and tells all that is to be seen of how it ends, and whether it ended.
func end(v *vm.Machine) (string, bool) {
	v.Run(1000)
	n, ok := v.Result()
	return fmt.Sprint(v.How(), n, ok, v.Out(), v.Cells(), v.Left()), v.How() != vm.Running
}

// P20.3: cut points alone are laid in a sparse file, which is shorter.
func TestSparseIsShorter(t *testing.T) {
	if whole, cuts := written(t, joining(), joined(), false), written(t, joining(), bare(), true); len(cuts) >= len(whole) || len(cfg.Cuts(joining().Funcs[0])) != 2 {
		t.Error(len(whole), len(cuts))
	}
}
