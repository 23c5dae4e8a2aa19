package annot

import (
	"bytes"
	"fmt"
	"math"
	"math/rand"
	"slices"
	"testing"

	"averment/api"
	"averment/cfg"
	"averment/fact"
	"averment/fault"
	"averment/flow"
	"averment/ir"
	"averment/known"
	"averment/span"
	"averment/state"
	"averment/table"
	"averment/wire"
)

// edgeNumbers are numbers at which laying may go wrong.
var edgeNumbers = []int64{math.MinInt64, math.MinInt64 + 1, -1 << 32, -65, -64, 63, 64, 1 << 31, math.MaxInt64 - 1, math.MaxInt64}

func someNumber(source *rand.Rand) int64 {
	if source.Intn(4) == 0 {
		return edgeNumbers[source.Intn(len(edgeNumbers))]
	}
	return int64(source.Intn(7) - 3)
}

// someModule is a well-formed module by chance, now and then without anything.
func someModule(t *testing.T, source *rand.Rand) ir.Module {
	t.Helper()
	var m ir.Module
	for range source.Intn(4) {
		m.Cells = append(m.Cells, someNumber(source))
	}
	for f := range source.Intn(4) {
		arity := source.Intn(5)
		fn := ir.Func{Name: fmt.Sprint("f", f), Arity: arity, Regs: max(1, arity) + source.Intn(4)}
		n := 1 + source.Intn(6)
		for range n {
			fn.Blocks = append(fn.Blocks, someBlock(source, fn.Regs, n))
		}
		m.Funcs = append(m.Funcs, fn)
	}
	for i := range source.Intn(4) {
		m.Imports = append(m.Imports, ir.Import{Name: fmt.Sprint("g", i), Arity: source.Intn(5)})
	}
	if e := ir.Check(m); e != nil {
		t.Fatal(e)
	}
	return m
}

// someBlock is one of a function with so many registers and blocks.
func someBlock(source *rand.Rand, regs, blocks int) ir.Block {
	var b ir.Block
	for range source.Intn(13) {
		x := ir.Insn{Op: ir.Add, D: source.Intn(regs), A: source.Intn(regs), B: source.Intn(regs)}
		if source.Intn(3) == 0 {
			x = ir.Insn{Op: ir.Output, A: source.Intn(regs)}
		}
		b.Insns = append(b.Insns, x)
	}
	switch source.Intn(3) {
	case 0:
		b.End = ir.End{Op: ir.Jump, To: source.Intn(blocks)}
	case 1:
		b.End = ir.End{Op: ir.Branch, A: source.Intn(regs), To: source.Intn(blocks), Else: source.Intn(blocks)}
	default:
		b.End = ir.End{Op: ir.Return, A: source.Intn(regs)}
	}
	return b
}

// someValue is Right, also such as no number has.
func someValue(source *rand.Rand) fact.Value {
	v := fact.Value{Sign: 1 + source.Intn(7), Known: known.Any(), Span: span.Of(someNumber(source)), Parity: 1 + source.Intn(3)}
	if source.Intn(3) == 0 {
		v.Known = known.Of(someNumber(source))
	}
	for range source.Intn(3) {
		v.Span = span.Join(v.Span, span.Of(someNumber(source)))
	}
	return v
}

func someValues(source *rand.Rand, n int) []fact.Value {
	var all []fact.Value
	for range n {
		all = append(all, someValue(source))
	}
	return all
}

// someSet is a set below n: of a few, of nearly all, or of some side by side.
func someSet(source *rand.Rand, n int) []int {
	var set []int
	often, side := 1+source.Intn(40), source.Intn(2) == 0
	in := source.Intn(2) == 0
	for x := range n {
		if source.Intn(often) == 0 {
			in = !in
		}
		if in || !side && source.Intn(often) == 0 {
			set = append(set, x)
		}
	}
	return set
}

// someSum is one of a function with so many arguments.
func someSum(source *rand.Rand, arity int) flow.Sum {
	var s flow.Sum
	if source.Intn(3) > 0 {
		s.Called, s.Args = true, someValues(source, arity)
	}
	if source.Intn(3) > 0 {
		s.Returns, s.Result = true, someValue(source)
	}
	return s
}

// someState is one of so many registers, now and then not Reached.
func someState(source *rand.Rand, regs, sites int) state.State {
	if source.Intn(4) == 0 {
		return state.None()
	}
	s := state.State{Reached: true, Vals: someValues(source, regs)}
	for range regs {
		s.Sites = append(s.Sites, someSet(source, sites))
	}
	return s
}

// someTable is one of m in normal form.
func someTable(source *rand.Rand, m ir.Module) table.Table {
	x := table.Table{Cells: someValues(source, len(m.Cells))}
	for _, f := range m.Funcs {
		told := table.Func{Sum: someSum(source, f.Arity)}
		for range f.Blocks {
			told.Blocks = append(told.Blocks, table.Block{State: someState(source, f.Regs, ir.Sites(m)), Live: someSet(source, f.Regs)})
		}
		x.Funcs = append(x.Funcs, told)
	}
	for _, im := range m.Imports {
		x.Imports = append(x.Imports, someSum(source, im.Arity))
	}
	return x
}

// someFile is a file by chance, whole or sparse.
func someFile(t *testing.T, source *rand.Rand) file {
	t.Helper()
	f := file{about: "by chance", m: someModule(t, source), sparse: source.Intn(2) == 0}
	f.x = someTable(source, f.m)
	if !f.sparse {
		f.pieces = pieces(f.m, f.x, nil)
		return f
	}
	f.x = table.Sparse(f.m, f.x)
	cuts := [][]int{}
	for _, fn := range f.m.Funcs {
		cuts = append(cuts, cfg.Cuts(fn))
	}
	f.pieces = pieces(f.m, f.x, cuts)
	return f
}

// P18.2, P4: what is written is read again, of whatever is in normal form; it has the bytes that the chapter says.
func TestSomeFiles(t *testing.T) {
	source := rand.New(rand.NewSource(18))
	for range 1500 {
		f := someFile(t, source)
		wantFile(t, f, layOut(f.pieces).bytes)
	}
}

// P4: what tells something else has other bytes.
func TestOtherFilesAreOthers(t *testing.T) {
	source := rand.New(rand.NewSource(4))
	seen := map[string]file{}
	for range 3000 {
		f := someFile(t, source)
		if len(f.m.Funcs) > 1 {
			continue
		}
		b := string(layOut(f.pieces).bytes)
		g, twice := seen[b]
		if twice && (f.sparse != g.sparse || !ir.Equal(f.m, g.m) || !table.Equal(f.x, g.x)) {
			t.Fatal("two of the same bytes", f, g)
		}
		seen[b] = f
	}
}

// mayBe are the errors that Read may have: those of layers 2 and 3, of Take, its own, and those of ir.Check.
var mayBe = []api.Errno{api.ErrShort, api.ErrForm, api.ErrRange, api.ErrTag, api.ErrFact, api.ErrSize, api.ErrName, api.ErrSymbol, api.ErrArity, api.ErrReg, api.ErrLabel}

// whateverTheyAre: bytes are a file, which has just them, or there is a named error, at a place in them.
func whateverTheyAre(t *testing.T, b []byte) bool {
	t.Helper()
	m, x, sparse, e := Read(b)
	if e != nil {
		wantError(t, fmt.Sprintf("%x", b), b, fault.Text(e))
		if !slices.Contains(mayBe, fault.Kind(e)) || len(fault.Path(e)) == 0 && fault.Kind(e) != api.ErrSize {
			t.Fatalf("%x: %s", b, fault.Text(e))
		}
		return false
	}
	if e := table.Check(m, x, sparse); e != nil {
		t.Fatalf("%x: what is read isn't in normal form: %s", b, fault.Text(e))
	}
	again, e := Write(m, x, sparse)
	if e != nil || !bytes.Equal(again, b) {
		t.Fatalf("%x: written again %x, %s", b, again, fault.Text(e))
	}
	return true
}

// P18.2, P4: each byte of a file made each other one.
func TestEachByteOtherwise(t *testing.T) {
	read := 0
	for _, f := range append(files()[:3], files()[9]) {
		b := layOut(f.pieces).bytes
		for at := range b {
			for c := range 256 {
				other := slices.Clone(b)
				other[at] = byte(c)
				if whateverTheyAre(t, other) {
					read++
				}
			}
		}
	}
	if read < 1000 {
		t.Error("hardly any was read:", read)
	}
}

// P18.2, P18.3, P4: whatever the bytes are.
func TestWhateverBytes(t *testing.T) {
	source := rand.New(rand.NewSource(3))
	whateverTheyAre(t, nil)
	read := 0
	for range 1500 {
		b := layOut(someFile(t, source).pieces).bytes
		other := layOut(someFile(t, source).pieces).bytes
		for range 1 + source.Intn(4) {
			at := source.Intn(len(b))
			switch source.Intn(6) {
			case 0:
				b = slices.Delete(slices.Clone(b), at, at+1)
			case 1:
				b = slices.Insert(slices.Clone(b), at, byte(source.Intn(256)))
			case 2:
				b = slices.Concat(b[:at], other[source.Intn(len(other)):])
			case 3:
				b[at] ^= 1 << source.Intn(8)
			default:
				b[at] = byte(source.Intn(256))
			}
			if len(b) == 0 {
				break
			}
			if whateverTheyAre(t, b) {
				read++
			}
		}
		trash := make([]byte, source.Intn(60))
		source.Read(trash)
		whateverTheyAre(t, trash)
		whateverTheyAre(t, append([]byte{0x41, 0x46, 1, byte(source.Intn(2)), 9, 0x41, 0x56, 1, 0, 0, 1, 1, 'g', 1}, trash...))
	}
	if read < 100 {
		t.Error("hardly any was read:", read)
	}
}

// P18.2: Values one behind the other, whatever the bytes are: what is taken has just its bytes.
func TestWhateverValues(t *testing.T) {
	source := rand.New(rand.NewSource(7))
	for range 20000 {
		b := make([]byte, source.Intn(40))
		source.Read(b)
		r := wire.Read(b)
		for {
			at := r.At()
			v, e := Take(r)
			if e != nil {
				if k := fault.Kind(e); r.At() != at || v != (fact.Value{}) || k != api.ErrShort && k != api.ErrForm && k != api.ErrFact {
					t.Fatalf("%x at %d: %s", b, at, fault.Text(e))
				}
				break
			}
			w := wire.New()
			if e := Put(w, v); e != nil || !bytes.Equal(w.Bytes(), b[at:r.At()]) {
				t.Fatalf("%x at %d: %v", b, at, v)
			}
		}
	}
}

// most is a module with as much as there can be: 3648 sites.
func most() ir.Module {
	m := ir.Module{Cells: make([]int64, api.MaxCells)}
	block := ir.Block{Insns: slices.Repeat([]ir.Insn{{Op: ir.Input}}, api.MaxInsns), End: ir.End{Op: ir.Return}}
	for f := range api.MaxFuncs {
		fn := ir.Func{Name: fmt.Sprint("f", f), Arity: api.MaxArgs, Regs: api.MaxRegs, Blocks: slices.Repeat([]ir.Block{block}, api.MaxBlocks)}
		m.Funcs = append(m.Funcs, fn)
	}
	return m
}

// P18.2: the greatest modules have files, too.
func TestMost(t *testing.T) {
	m := most()
	source := rand.New(rand.NewSource(5))
	for about, x := range map[string]table.Table{"any": table.Any(m), "none": table.None(m), "by chance": someTable(source, m)} {
		b, e := Write(m, x, false)
		if e != nil {
			t.Fatal(about, fault.Text(e))
		}
		n, y, sparse, e := Read(b)
		if e != nil || sparse || !ir.Equal(m, n) || !table.Equal(x, y) {
			t.Error(about, fault.Text(e))
		}
	}
}
