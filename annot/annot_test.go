package annot

import (
	"bytes"
	"fmt"
	"math"
	"reflect"
	"slices"
	"testing"

	"averment/code"
	"averment/fact"
	"averment/fault"
	"averment/flow"
	"averment/ir"
	"averment/known"
	"averment/span"
	"averment/state"
	"averment/table"
)

// from is a Value that tells nothing but a Span.
func from(lo, hi int64) fact.Value {
	v := fact.Any()
	v.Span = span.Span{Lo: lo, Hi: hi}
	return v
}

// of are the Values of numbers.
func of(numbers ...int64) []fact.Value {
	var vals []fact.Value
	for _, n := range numbers {
		vals = append(vals, fact.Of(n))
	}
	return vals
}

// two is a module of two functions, with sites 0 to 3 and 4 to 7: of main blocks 0 and 1 are cut points, 2 and 3 aren't; of g block 0 alone is one.
func two() ir.Module {
	return ir.Module{
		Cells: []int64{5, -1},
		Funcs: []ir.Func{
			{Name: "main", Regs: 2, Blocks: []ir.Block{
				{Insns: []ir.Insn{{Op: ir.Load, D: 1, B: 1}}, End: ir.End{Op: ir.Jump, To: 1}},
				{Insns: []ir.Insn{{Op: ir.Input}}, End: ir.End{Op: ir.Branch, To: 2, Else: 3}},
				{Insns: []ir.Insn{{Op: ir.Output, A: 1}}, End: ir.End{Op: ir.Jump, To: 1}},
				{End: ir.End{Op: ir.Return, A: 1}},
			}},
			{Name: "g", Arity: 2, Regs: 3, Blocks: []ir.Block{
				{Insns: []ir.Insn{{Op: ir.Call, D: 2, B: 2, Args: []int{0}}}, End: ir.End{Op: ir.Branch, A: 2, To: 0, Else: 1}},
				{End: ir.End{Op: ir.Return, A: 2}},
			}},
		},
		Imports: []ir.Import{{Name: "h", Arity: 1}, {Name: "i"}, {Name: "j", Arity: 2}},
	}
}

// cutsOfTwo are the cut points of two.
func cutsOfTwo() [][]int { return [][]int{{0, 1}, {0}} }

// told is a Table of two, in normal form, with something of each kind.
func told() table.Table {
	having := func(vals []fact.Value, sites ...[]int) state.State {
		return state.State{Reached: true, Vals: vals, Sites: sites}
	}
	return table.Table{
		Cells: []fact.Value{from(0, 9), {Sign: 1, Known: known.Of(math.MinInt64), Span: span.Of(math.MaxInt64), Parity: 2}},
		Funcs: []table.Func{
			{Sum: flow.Sum{Called: true}, Blocks: []table.Block{
				{State: having(of(0, 300), []int{0}, []int{1}), Live: []int{1}},
				{State: having([]fact.Value{from(-500, math.MaxInt64), fact.Any()}, []int{0, 3}, []int{0, 1, 2, 3, 4, 5, 6, 7}), Live: []int{0, 1}},
				{State: having([]fact.Value{from(math.MinInt64, 70), fact.Of(math.MinInt64)}, nil, []int{7})},
				{State: state.None(), Live: []int{0}},
			}},
			{Sum: flow.Sum{Called: true, Args: of(3, 4), Returns: true, Result: from(-2, 2)}, Blocks: []table.Block{
				{State: having(of(3, 4, 0), []int{4}, []int{5}, []int{6, 7}), Live: []int{0, 2}},
				{State: having(of(3, 4, 1), []int{4}, []int{5}, []int{7}), Live: []int{2}},
			}},
		},
		Imports: []flow.Sum{
			{Called: true, Args: of(6), Returns: true, Result: fact.Of(8)},
			{Returns: true, Result: fact.Any()},
			{Called: true, Args: of(1, 2)},
		},
	}
}

// file is a module, its Table, and how it is laid.
type file struct {
	about  string
	m      ir.Module
	x      table.Table
	sparse bool
	pieces []piece
}

// files are told, and Any and None of two, whole and sparse.
func files() []file {
	m := two()
	var all []file
	for _, c := range []struct {
		about string
		x     table.Table
	}{{"told", told()}, {"any", table.Any(m)}, {"none", table.None(m)}} {
		s := table.Sparse(m, c.x)
		all = append(all,
			file{c.about, m, c.x, false, pieces(m, c.x, nil)},
			file{c.about + ", sparse", m, s, true, pieces(m, s, cutsOfTwo())},
			file{c.about + ", of cut points alone, but whole", m, s, false, pieces(m, s, nil)})
	}
	return append(all, file{"nothing", ir.Module{}, table.Table{}, false, pieces(ir.Module{}, table.Table{}, nil)})
}

// wantError: the error is that one, and all else is zero.
func wantError(t *testing.T, what string, b []byte, want string) {
	t.Helper()
	m, x, sparse, e := Read(b)
	if e == nil || fault.Text(e) != want {
		t.Errorf("%s: got %s, want %s", what, fault.Text(e), want)
	}
	if e != nil && (sparse || !reflect.DeepEqual(m, ir.Module{}) || !reflect.DeepEqual(x, table.Table{})) {
		t.Errorf("%s: beside the error there is %v, %v, %v", what, m, x, sparse)
	}
}

// wantFile: the file is b, and b is the file.
func wantFile(t *testing.T, f file, b []byte) {
	t.Helper()
	got, e := Write(f.m, f.x, f.sparse)
	if e != nil || !bytes.Equal(got, b) {
		t.Errorf("%s: got %x, %s, want %x", f.about, got, fault.Text(e), b)
	}
	m, x, sparse, e := Read(b)
	if e != nil || !ir.Equal(m, f.m) || !table.Equal(x, f.x) || sparse != f.sparse {
		t.Errorf("%s: got %v, %v, %v, %s", f.about, m, x, sparse, fault.Text(e))
	}
}

// P18.1: files by hand.
func TestFilesByHand(t *testing.T) {
	loop := ir.Module{Cells: []int64{5}, Funcs: []ir.Func{{Name: "f", Arity: 1, Regs: 2, Blocks: []ir.Block{
		{End: ir.End{Op: ir.Jump, To: 1}},
		{Insns: []ir.Insn{{Op: ir.Input, D: 1}}, End: ir.End{Op: ir.Branch, A: 1, To: 1, Else: 2}},
		{End: ir.End{Op: ir.Return, A: 0}},
	}}}, Imports: []ir.Import{{Name: "g", Arity: 2}}}
	of2 := func(live ...int) table.Block {
		return table.Block{State: state.State{Reached: true, Vals: []fact.Value{fact.Any(), fact.Of(0)}, Sites: [][]int{{0}, {0, 1, 2}}}, Live: live}
	}
	x := table.Table{
		Cells: []fact.Value{from(5, 6)},
		Funcs: []table.Func{{
			Sum:    flow.Sum{Called: true, Args: []fact.Value{fact.Any()}, Returns: true, Result: fact.Of(5)},
			Blocks: []table.Block{of2(0), of2(0, 1), {Live: []int{1}}},
		}},
		Imports: []flow.Sum{{Called: true, Args: []fact.Value{fact.Any(), fact.Of(0)}}},
	}
	s := table.Sparse(loop, x)
	module := "1c 415601 01 0a 01 01 66 01 02 03  00 01 01  01 0f 01 02 01 01 02  00 03 00  01 01 67 02"
	sum := "03 37 ec0a0a0a"
	state2 := "01 37 da000000 0001 0007"
	for _, c := range []struct {
		file file
		want string
	}{
		{file{about: "nothing, whole"}, "41 46 01 00 06 415601000000"},
		{file{about: "nothing, sparse", sparse: true}, "41 46 01 01 06 415601000000"},
		{file{about: "empty lists", x: table.Table{Cells: []fact.Value{}, Funcs: []table.Func{}, Imports: []flow.Sum{}}}, "41 46 01 00 06 415601000000"},
		{file{about: "whole", m: loop, x: x}, "41 46 01 00" + module + "f7 0a 0c" +
			"21" + sum + state2 + "0001" + state2 + "0003" + "00 0002" + "01 37 da000000"},
		{file{about: "sparse", m: loop, x: s, sparse: true}, "41 46 01 01" + module + "f7 0a 0c" +
			"1e" + sum + state2 + "0001" + state2 + "0003" + "01 37 da000000"},
		{file{about: "nothing happens", m: loop, x: table.None(loop)}, "41 46 01 00" + module + "ec 0a 0a 0a" +
			"0a 00 00 0000 00 0000 00 0000" + "00"},
		{file{about: "nothing happens, sparse", m: loop, x: table.None(loop), sparse: true}, "41 46 01 01" + module + "ec 0a 0a 0a" +
			"07 00 00 0000 00 0000" + "00"},
	} {
		wantFile(t, c.file, unhex(t, c.want))
	}
}

// P18.1, P18.2: files by their parts.
func TestFilesByParts(t *testing.T) {
	for _, f := range files() {
		wantFile(t, f, layOut(f.pieces).bytes)
	}
}

// P18.1: errors of table.Check.
func TestWriteErrors(t *testing.T) {
	wrong := func(change func(m *ir.Module, x *table.Table)) (ir.Module, table.Table) {
		m, x := two(), told()
		change(&m, &x)
		return m, x
	}
	for _, c := range []struct {
		about, want string
		sparse      bool
		change      func(m *ir.Module, x *table.Table)
	}{
		{"a module that isn't well-formed", "1.0.0 symbol", false, func(m *ir.Module, x *table.Table) { m.Funcs[1].Blocks[0].Insns[0].B = 5 }},
		{"no Cells", "shape", false, func(m *ir.Module, x *table.Table) { x.Cells = nil }},
		{"a cell", "0.1 fact", false, func(m *ir.Module, x *table.Table) { x.Cells[1] = fact.Value{} }},
		{"an argument more", "1.1 shape", false, func(m *ir.Module, x *table.Table) { x.Funcs[1].Sum.Args = of(1, 2, 3) }},
		{"not Called, with Args", "1.1 shape", false, func(m *ir.Module, x *table.Table) { x.Funcs[1].Sum.Called = false }},
		{"not Returns, with a Result", "1.1 fact", false, func(m *ir.Module, x *table.Table) { x.Funcs[1].Sum.Returns = false }},
		{"not Reached, with Vals", "1.1.0 shape", false, func(m *ir.Module, x *table.Table) { x.Funcs[1].Blocks[0].State.Reached = false }},
		{"a site beyond", "1.0.2 fact", false, func(m *ir.Module, x *table.Table) { x.Funcs[0].Blocks[2].State.Sites[1] = []int{8} }},
		{"Live beyond", "1.0.3 fact", false, func(m *ir.Module, x *table.Table) { x.Funcs[0].Blocks[3].Live = []int{2} }},
		{"an import", "2.2 shape", false, func(m *ir.Module, x *table.Table) { x.Imports[2].Args = of(1) }},
		{"whole, as sparse", "1.0.2 shape", true, func(m *ir.Module, x *table.Table) {}},
		{"Live alone at no cut point", "1.0.3 shape", true, func(m *ir.Module, x *table.Table) { x.Funcs[0].Blocks[2] = table.Block{} }},
	} {
		m, x := wrong(c.change)
		b, e := Write(m, x, c.sparse)
		if len(b) != 0 || fault.Text(e) != c.want || fault.Text(table.Check(m, x, c.sparse)) != c.want {
			t.Errorf("%s: got %x, %s, want %s", c.about, b, fault.Text(e), c.want)
		}
	}
}

// P18.1: cut short at each byte; sections, too, which then say so themselves.
func TestCutShort(t *testing.T) {
	for _, f := range files() {
		b := layOut(f.pieces).bytes
		for cut := range b {
			wantError(t, fmt.Sprint(f.about, " cut at ", cut), b[:cut], shortAt(f.pieces, cut))
		}
		for i, p := range f.pieces {
			if !p.section || i == 1 {
				continue
			}
			sectionsCutShort(t, f, i)
		}
	}
	wantError(t, "nothing", nil, "0 short")
	wantError(t, "other bytes, but too few", []byte{1, 2}, "0 short")
	wantError(t, "no section of a module", []byte{0x41, 0x46, 1, 0}, "4 short")
	wantError(t, "a section that ends in its length", []byte{0x41, 0x46, 1, 0, 0x80}, "4 short")
}

// sectionsCutShort cuts section i of a file at each of its bytes, and lets it say how long it is then: what isn't whole in it is told.
func sectionsCutShort(t *testing.T, f file, i int) {
	t.Helper()
	inner := layOut([]piece{{parts: f.pieces[i].parts}})
	for cut := range inner.bytes {
		short := slices.Clone(f.pieces)
		short[i] = piece{section: true, parts: []part{{bytes: inner.bytes[:cut]}}}
		out := layOut(short)
		at := partAt(f.pieces[i], inner.part[0], cut) + out.part[i][0]
		wantError(t, fmt.Sprint(f.about, ": section ", i, " cut at ", cut), out.bytes, fmt.Sprint(at, " short"))
	}
}

// P18.1: bytes left in a function's section, and behind all, at the place of the first one.
func TestBytesLeft(t *testing.T) {
	for _, f := range files() {
		for _, more := range []string{"\x00", "\xff", "\x01\x02\x03", "AF\x01\x00\x06AV\x01\x00\x00\x00"} {
			b := layOut(f.pieces).bytes
			wantError(t, f.about+": behind all", slices.Concat(b, []byte(more)), fmt.Sprint(len(b), " form"))
			for i, p := range f.pieces {
				if !p.section {
					continue
				}
				longer := slices.Clone(f.pieces)
				longer[i].parts = append(slices.Clone(p.parts), part{bytes: []byte(more)})
				out := layOut(longer)
				at := out.part[i][len(p.parts)]
				wantError(t, fmt.Sprint(f.about, ": section ", i), out.bytes, fmt.Sprint(at, " form"))
				// It is told where it is met: ahead of what is left behind all.
				wantError(t, fmt.Sprint(f.about, ": section ", i, " and behind all"), append(out.bytes, 0), fmt.Sprint(at, " form"))
			}
		}
	}
}

// P18.1: other first bytes, and other fourth ones.
func TestFirstBytes(t *testing.T) {
	b := layOut(files()[0].pieces).bytes
	for i := range 3 {
		for c := range 256 {
			other := slices.Clone(b)
			other[i] = byte(c)
			if other[i] != b[i] {
				wantError(t, fmt.Sprint("byte ", i, " is ", c), other, "0 form")
				wantError(t, fmt.Sprint("byte ", i, " is ", c, ", alone"), other[:3], "0 form")
			}
		}
	}
	for c := 2; c < 256; c++ {
		other := slices.Clone(b)
		other[3] = byte(c)
		wantError(t, fmt.Sprint("the fourth byte is ", c), other, "3 tag")
		wantError(t, fmt.Sprint("the fourth byte is ", c, ", the last one"), other[:4], "3 tag")
	}
}

// P18.1: errors of code.Take: places of bytes are those of the file, others the module's.
func TestModuleErrors(t *testing.T) {
	bad := two()
	bad.Funcs[1].Blocks[0].Insns[0].B = 5
	good := moduleBytes(two())
	for _, c := range []struct {
		about, want string
		bytes       []byte
	}{
		{"no bytes", "5 short", nil},
		{"two bytes", "5 short", good[:2]},
		{"other first bytes", "5 form", append([]byte{0x41, 0x46, 0x01}, good[3:]...)},
		{"17 cells", "8 range", []byte{0x41, 0x56, 0x01, 17}},
		{"a number in another form", "8 form", []byte{0x41, 0x56, 0x01, 0x82, 0}},
		{"no cells to come", "9 short", []byte{0x41, 0x56, 0x01, 2}},
		{"no such Op", "15 tag", []byte{0x41, 0x56, 0x01, 0, 1, 0, 0, 0, 1, 0, 0}},
		{"a byte more", "11 form", []byte{0x41, 0x56, 0x01, 0, 0, 0, 0}},
		{"a name", "0 name", []byte{0x41, 0x56, 0x01, 0, 1, 0, 0, 0, 0, 0}},
		{"not well-formed", "1.0.0 symbol", moduleBytes(bad)},
		{"not well-formed, and a byte more", fmt.Sprint(5+len(moduleBytes(bad)), " form"), append(moduleBytes(bad), 0)},
	} {
		all := []piece{{parts: []part{{bytes: []byte{0x41, 0x46, 1, 0}}}}, {section: true, parts: []part{{bytes: c.bytes}}}}
		b := layOut(all).bytes
		wantError(t, c.about, b, c.want)
		wantError(t, c.about+", trash behind", append(b, 0xff, 0xff), c.want)
	}
	for cut := range good {
		_, e := code.Read(good[:cut])
		path := fault.Path(e)
		all := []piece{{parts: []part{{bytes: []byte{0x41, 0x46, 1, 1}}}}, {section: true, parts: []part{{bytes: good[:cut]}}}}
		wantError(t, fmt.Sprint("cut at ", cut), layOut(all).bytes, fmt.Sprint(path[0]+5, " short"))
	}
}

// wrongPart is what stands for a part, and what is told of it; back: at the beginning of its Value.
type wrongPart struct {
	bytes []byte
	want  string
	back  bool
}

// wrongParts are p, wrong in each way that it can be.
func wrongParts(p part) []wrongPart {
	longer := append(slices.Clone(p.bytes[:len(p.bytes)-1]), p.bytes[len(p.bytes)-1]|0x80, 0)
	numbers := []wrongPart{
		{bytes: longer, want: "form"}, {bytes: []byte{0x80, 0}, want: "form"},
		{bytes: bytes.Repeat([]byte{0x80}, 10), want: "form"},
		{bytes: append(bytes.Repeat([]byte{0xff}, 9), 2), want: "form"},
	}
	switch p.kind {
	case how:
		return []wrongPart{{bytes: []byte{2}, want: "tag"}, {bytes: []byte{0xff}, want: "tag"}}
	case valueByte:
		return []wrongPart{
			{bytes: []byte{p.bytes[0] &^ 7}, want: "fact"}, {bytes: []byte{p.bytes[0] &^ 48}, want: "fact"},
			{bytes: []byte{0}, want: "fact"}, {bytes: []byte{0xc8}, want: "fact"},
		}
	case number:
		return numbers
	case lo:
		return append(numbers, wrongPart{withSign(math.MinInt64), "fact", true})
	case hi:
		return append(numbers, wrongPart{withSign(math.MaxInt64), "fact", true})
	case sumByte:
		return []wrongPart{{bytes: []byte{4}, want: "tag"}, {bytes: []byte{7}, want: "tag"}, {bytes: []byte{0xff}, want: "tag"}}
	case stateByte:
		return []wrongPart{{bytes: []byte{2}, want: "tag"}, {bytes: []byte{3}, want: "tag"}, {bytes: []byte{0xff}, want: "tag"}}
	case set:
		return []wrongPart{
			{bytes: []byte{3}, want: "tag"}, {bytes: []byte{0xff}, want: "tag"},
			// Gaps of one that isn't below the bound, and of more than there may be.
			{bytes: append([]byte{1, 1}, plain(uint64(p.below))...), want: "range"},
			{bytes: append([]byte{1}, plain(uint64(p.below+1))...), want: "range"},
			{bytes: []byte{1, 0x80, 0}, want: "form"},
			{bytes: []byte{2, 1, 0x80, 0}, want: "form"},
			// Plain is as short as Gaps for so few numbers.
			{bytes: []byte{1, 0}, want: "form"},
		}
	}
	return nil
}

// P18.1: each part by itself made wrong, at its place; nothing that is behind it counts.
func TestEachPartWrong(t *testing.T) {
	for _, f := range files() {
		for i, p := range f.pieces {
			for j := range p.parts {
				eachWrong(t, f, i, j)
			}
			if p.section {
				sectionsWrong(t, f, i)
			}
		}
	}
}

// eachWrong makes part j of piece i wrong, in each way.
func eachWrong(t *testing.T, f file, i, j int) {
	t.Helper()
	p := f.pieces[i].parts[j]
	for _, w := range wrongParts(p) {
		all := slices.Clone(f.pieces)
		all[i].parts = slices.Clone(all[i].parts)
		all[i].parts[j].bytes = w.bytes
		out := layOut(all)
		what := fmt.Sprintf("%s: %s, part %d of piece %d, is %x", f.about, p.kind, j, i, w.bytes)
		at := out.part[i][j]
		want := fmt.Sprint(at, " ", w.want)
		if w.back {
			want = fmt.Sprint(out.part[i][j-p.back], " ", w.want)
		}
		wantError(t, what, out.bytes, want)
		wantError(t, what+", and a byte more", append(out.bytes, 0), want)
		if !f.pieces[i].section && !w.back {
			wantError(t, what+", the last one", out.bytes[:at+len(w.bytes)], want)
		}
	}
}

// sectionsWrong lets section i say that it has other lengths than it has.
func sectionsWrong(t *testing.T, f file, i int) {
	t.Helper()
	out := layOut(f.pieces)
	at := out.piece[i]
	length := len(layOut([]piece{{parts: f.pieces[i].parts}}).bytes)
	behind := out.bytes[out.part[i][0]:]
	for _, c := range []struct {
		about, want string
		length      []byte
	}{
		{"another form", "form", append([]byte{byte(length) | 0x80, byte(length>>7) | 0x80}, 0)},
		{"eleven bytes", "form", bytes.Repeat([]byte{0xff}, 11)},
		{"more than there are", "short", plain(uint64(len(behind) + 1))},
		{"far more", "short", plain(math.MaxUint64)},
		{"the most that an int has", "short", plain(math.MaxInt64)},
	} {
		b := slices.Concat(out.bytes[:at], c.length, behind)
		wantError(t, fmt.Sprint(f.about, ": section ", i, ": ", c.about), b, fmt.Sprint(at, " ", c.want))
	}
}

// P18.1: of two wrong parts the one that is met first is told.
func TestTwoPartsWrong(t *testing.T) {
	f := files()[0]
	type spot struct{ i, j int }
	var spots []spot
	for i, p := range f.pieces {
		for j, x := range p.parts {
			if len(wrongParts(x)) > 0 {
				spots = append(spots, spot{i, j})
			}
		}
	}
	for n, a := range spots {
		for _, b := range spots[n+1:] {
			all := slices.Clone(f.pieces)
			for k := range all {
				all[k].parts = slices.Clone(all[k].parts)
			}
			second := wrongParts(all[b.i].parts[b.j])
			all[b.i].parts[b.j].bytes = second[len(second)-1].bytes
			first := wrongParts(all[a.i].parts[a.j])[0]
			all[a.i].parts[a.j].bytes = first.bytes
			out := layOut(all)
			wantError(t, fmt.Sprint(a, " and ", b), out.bytes, fmt.Sprint(out.part[a.i][a.j], " ", first.want))
		}
	}
}

// P18.1: a Sum's bits each for itself, and what they ask for.
func TestSums(t *testing.T) {
	m := ir.Module{Imports: []ir.Import{{Name: "g", Arity: 1}}}
	head := "41 46 01 00 09 415601 00 00 01 01 67 01"
	for _, c := range []struct {
		sum  flow.Sum
		want string
	}{
		{flow.Sum{}, "00"},
		{flow.Sum{Called: true, Args: of(0)}, "01 da000000"},
		{flow.Sum{Returns: true, Result: fact.Any()}, "02 37"},
		{flow.Sum{Called: true, Args: of(0), Returns: true, Result: fact.Any()}, "03 da000000 37"},
	} {
		wantFile(t, file{about: c.want, m: m, x: table.Table{Imports: []flow.Sum{c.sum}}}, unhex(t, head+c.want))
	}
	wantError(t, "neither, but a Value", unhex(t, head+"00 37"), "15 form")
	wantError(t, "Called, without the argument", unhex(t, head+"01"), "15 short")
	wantError(t, "both, without a Result", unhex(t, head+"03 37"), "16 short")
	wantError(t, "4", unhex(t, head+"04"), "14 tag")
}

// P18.2: a cut point that isn't Reached is laid in a sparse file, and what is no cut point isn't.
func TestSparseOfWhatIsNotReached(t *testing.T) {
	m := two()
	x := table.None(m)
	x.Funcs[0].Blocks[1].Live = []int{0}
	whole, e := Write(m, x, false)
	if e != nil {
		t.Fatal(e)
	}
	sparse, e := Write(m, x, true)
	if e != nil {
		t.Fatal(e)
	}
	// Three blocks are no cut points: a State's byte and two bytes of Live each.
	if len(whole)-len(sparse) != 9 {
		t.Error(len(whole), len(sparse))
	}
	wantFile(t, file{about: "whole", m: m, x: x}, whole)
	wantFile(t, file{about: "sparse", m: m, x: x, sparse: true}, sparse)
	// Each is no file of the other kind.
	whole[3], sparse[3] = 1, 0
	if _, _, _, e := Read(whole); e == nil {
		t.Error("a whole one as sparse")
	}
	if _, _, _, e := Read(sparse); e == nil {
		t.Error("a sparse one as whole")
	}
}
