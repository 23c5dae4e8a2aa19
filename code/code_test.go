package code

import (
	"bytes"
	"encoding/hex"
	"fmt"
	"math"
	"math/rand"
	"reflect"
	"runtime"
	"slices"
	"strings"
	"testing"

	"averment/fault"
	"averment/ir"
	"averment/wire"
)

// Kinds of parts: how each of them may be wrong.
const (
	begins  = "begins"
	number  = "number"
	signed  = "signed"
	section = "section"
	insnOp  = "instruction's Op"
	endOp   = "End's Op"
)

// part is what is taken at once: a number, a section, a byte, or the first three bytes.
type part struct {
	kind  string
	most  uint64
	bytes []byte
}

// parts are those of m, well-formed or not, laid word for word as the document says it.
func parts(m ir.Module) []part {
	all := []part{{kind: begins, bytes: []byte{0x41, 0x56, 0x01}}}
	add := func(kind string, most uint64, b []byte) { all = append(all, part{kind, most, b}) }
	num := func(n int, most uint64) { add(number, most, plain(uint64(n))) }
	name := func(s string) { add(section, 0, append(plain(uint64(len(s))), s...)) }
	num(len(m.Cells), 16)
	for _, c := range m.Cells {
		add(signed, 0, withSign(c))
	}
	num(len(m.Funcs), 24)
	for _, f := range m.Funcs {
		name(f.Name)
		num(f.Arity, 4)
		num(f.Regs, 8)
		num(len(f.Blocks), 12)
		for _, b := range f.Blocks {
			num(len(b.Insns), 12)
			for _, x := range b.Insns {
				add(insnOp, 0, []byte{byte(x.Op)})
				switch x.Op {
				case 1:
					num(x.D, 7)
					add(signed, 0, withSign(x.N))
				case 2, 3:
					num(x.D, 7)
					num(x.A, 7)
				case 4, 5, 6, 7, 8, 9, 10, 11, 12:
					num(x.D, 7)
					num(x.A, 7)
					num(x.B, 7)
				case 13:
					num(x.D, 7)
					num(x.B, 15)
				case 14:
					num(x.A, 7)
					num(x.B, 15)
				case 15:
					num(x.D, 7)
				case 16:
					num(x.A, 7)
				case 17:
					num(x.D, 7)
					num(x.B, 23)
					num(len(x.Args), 4)
					for _, r := range x.Args {
						num(r, 7)
					}
				}
			}
			add(endOp, 0, []byte{byte(b.End.Op)})
			switch b.End.Op {
			case 1:
				num(b.End.To, 11)
			case 2:
				num(b.End.A, 7)
				num(b.End.To, 11)
				num(b.End.Else, 11)
			case 3:
				num(b.End.A, 7)
			}
		}
	}
	num(len(m.Imports), 24)
	for _, im := range m.Imports {
		name(im.Name)
		num(im.Arity, 4)
	}
	return all
}

// plain lays a number as layer 2 says it.
func plain(n uint64) []byte {
	var b []byte
	for n > 127 {
		b = append(b, byte(n%128)+128)
		n /= 128
	}
	return append(b, byte(n))
}

func withSign(n int64) []byte {
	if n >= 0 {
		return plain(2 * uint64(n))
	}
	return plain(2*uint64(-(n+1)) + 1)
}

// joined are the parts' bytes, one behind the other.
func joined(all []part) []byte {
	b := []byte{}
	for _, p := range all {
		b = append(b, p.bytes...)
	}
	return b
}

// full has each Op and each End.
func full() ir.Module {
	return ir.Module{
		Cells: []int64{7, -1, math.MaxInt64, math.MinInt64, 0},
		Funcs: []ir.Func{
			{Name: "main", Arity: 0, Regs: 3, Blocks: []ir.Block{
				{Insns: []ir.Insn{
					{Op: ir.Const, D: 1, N: -500},
					{Op: ir.Move, D: 2, A: 1},
					{Op: ir.Neg, D: 2, A: 0},
					{Op: ir.Add, D: 0, A: 1, B: 2},
					{Op: ir.Sub, D: 0, A: 1, B: 2},
					{Op: ir.Mul, D: 0, A: 1, B: 2},
					{Op: ir.Div, D: 0, A: 1, B: 2},
					{Op: ir.Rem, D: 0, A: 1, B: 2},
					{Op: ir.And, D: 0, A: 1, B: 2},
					{Op: ir.Xor, D: 0, A: 1, B: 2},
					{Op: ir.Less, D: 0, A: 1, B: 2},
					{Op: ir.Same, D: 0, A: 1, B: 2},
				}, End: ir.End{Op: ir.Branch, A: 1, To: 2, Else: 0}},
				{Insns: []ir.Insn{
					{Op: ir.Load, D: 2, B: 4},
					{Op: ir.Store, A: 1, B: 3},
					{Op: ir.Input, D: 2},
					{Op: ir.Output, A: 1},
					{Op: ir.Call, D: 2, B: 3, Args: []int{2, 1, 0, 1}},
					{Op: ir.Call, D: 1, B: 2},
				}, End: ir.End{Op: ir.Jump, To: 2}},
				{End: ir.End{Op: ir.Return, A: 2}},
			}},
			{Name: "twice", Arity: 2, Regs: 2, Blocks: []ir.Block{{End: ir.End{Op: ir.Return, A: 1}}}},
		},
		Imports: []ir.Import{{Name: "ask", Arity: 0}, {Name: "zap", Arity: 4}},
	}
}

// fullHex are full's bytes, by hand.
const fullHex = "415601" +
	"05 0e 01 feffffffffffffffff01 ffffffffffffffffff01 00" +
	"02" +
	"04 6d61696e 00 03 03" +
	"0c 01 01 e707  02 02 01  03 02 00  04 00 01 02  05 00 01 02  06 00 01 02  07 00 01 02  08 00 01 02" +
	" 09 00 01 02  0a 00 01 02  0b 00 01 02  0c 00 01 02  02 01 02 00" +
	"06 0d 02 04  0e 01 03  0f 02  10 01  11 02 03 04 02 01 00 01  11 01 02 00  01 02" +
	"00 03 02" +
	"05 7477696365 02 02 01  00 03 01" +
	"02 03 61736b 00 03 7a6170 04"

func unhex(t *testing.T, s string) []byte {
	t.Helper()
	b, e := hex.DecodeString(strings.ReplaceAll(s, " ", ""))
	if e != nil {
		t.Fatal(e)
	}
	return b
}

// wantError: the error is that one, and all else is zero.
func wantError(t *testing.T, what string, m ir.Module, e error, want string) {
	t.Helper()
	if got := fault.Text(e); e == nil || got != want {
		t.Errorf("%s: got %q, want %q", what, got, want)
	}
	if !reflect.DeepEqual(m, ir.Module{}) {
		t.Errorf("%s: beside the error there is %v", what, m)
	}
}

func wantReadError(t *testing.T, what string, b []byte, want string) {
	t.Helper()
	m, e := Read(b)
	wantError(t, what, m, e, want)
	m, e = Take(wire.Read(b))
	wantError(t, what+" (Take)", m, e, want)
}

// P5.1: the bytes, of the document's examples and of a module that has all.
func TestBytes(t *testing.T) {
	for _, c := range []struct {
		m    ir.Module
		want string
	}{
		{ir.Module{}, "41 56 01 00 00 00"},
		{ir.Module{Cells: []int64{}, Funcs: []ir.Func{}, Imports: []ir.Import{}}, "41 56 01 00 00 00"},
		{ir.Module{Cells: []int64{-1, 64}}, "41 56 01 02 01 80 01 00 00"},
		{ir.Module{Imports: []ir.Import{{Name: "a", Arity: 2}}}, "41 56 01 00 00 01 01 61 02"},
		{full(), fullHex},
	} {
		want := unhex(t, c.want)
		b, e := Write(c.m)
		if e != nil || !bytes.Equal(b, want) {
			t.Errorf("%v: got %x, %s, want %x", c.m, b, fault.Text(e), want)
		}
		if by := joined(parts(c.m)); !bytes.Equal(by, want) {
			t.Errorf("%v: by parts %x, want %x", c.m, by, want)
		}
		m, e := Read(want)
		if e != nil || !ir.Equal(m, c.m) {
			t.Errorf("%x: got %v, %s", want, m, fault.Text(e))
		}
	}
}

// P5.1: what isn't well-formed isn't written.
func TestWriteErrors(t *testing.T) {
	for i, m := range wrongModules() {
		b, e := Write(m)
		want := fault.Text(ir.Check(m))
		if e == nil || fault.Text(e) != want || len(b) != 0 {
			t.Errorf("%d: got %x, %q, want %q", i, b, fault.Text(e), want)
		}
	}
	m := full()
	m.Funcs[0].Blocks[1].Insns[3].A = -1
	if _, e := Write(m); fault.Text(e) != "0.1.3 register" {
		t.Error(fault.Text(e))
	}
	m = full()
	m.Cells = make([]int64, 17)
	if _, e := Write(m); fault.Text(e) != "size" {
		t.Error(fault.Text(e))
	}
}

// wrongModules aren't well-formed, but each of them has its bytes.
func wrongModules() []ir.Module {
	var all []ir.Module
	for _, change := range []func(m *ir.Module){
		func(m *ir.Module) { m.Funcs = append(m.Funcs, make([]ir.Func, 21)...) },
		func(m *ir.Module) { m.Funcs[0].Name = "" },
		func(m *ir.Module) { m.Funcs[1].Name = "Twice" },
		func(m *ir.Module) { m.Funcs[1].Name = "abcdefghijklm" },
		func(m *ir.Module) { m.Funcs[1].Name = strings.Repeat("n", 300) },
		func(m *ir.Module) { m.Funcs[1].Name = "main" },
		func(m *ir.Module) { m.Funcs[0].Regs = 0 },
		func(m *ir.Module) { m.Funcs[1].Regs = 1 },
		func(m *ir.Module) { m.Funcs[1].Blocks = nil },
		func(m *ir.Module) { m.Funcs[0].Blocks[0].Insns[0].D = 7 },
		func(m *ir.Module) { m.Funcs[0].Blocks[0].Insns[1].A = 3 },
		func(m *ir.Module) { m.Funcs[0].Blocks[0].Insns[3].B = 3 },
		func(m *ir.Module) { m.Funcs[0].Blocks[1].Insns[0].B = 15 },
		func(m *ir.Module) { m.Funcs[0].Blocks[1].Insns[1].B = 5 },
		func(m *ir.Module) { m.Funcs[0].Blocks[1].Insns[4].B = 23 },
		func(m *ir.Module) { m.Funcs[0].Blocks[1].Insns[4].B = 1 },
		func(m *ir.Module) { m.Funcs[0].Blocks[1].Insns[4].Args[3] = 7 },
		func(m *ir.Module) { m.Funcs[0].Blocks[1].Insns[5].Args = []int{0} },
		func(m *ir.Module) { m.Funcs[0].Blocks[0].End.A = 7 },
		func(m *ir.Module) { m.Funcs[0].Blocks[0].End.Else = 3 },
		func(m *ir.Module) { m.Funcs[0].Blocks[1].End.To = 11 },
		func(m *ir.Module) { m.Funcs[0].Blocks[2].End.A = 3 },
		func(m *ir.Module) { m.Imports[0].Name = "a-k" },
		func(m *ir.Module) { m.Imports[1].Name = "ask" },
		func(m *ir.Module) { m.Imports[1].Name = "abc" },
		func(m *ir.Module) { m.Imports[1].Name = "twice" },
		func(m *ir.Module) { m.Imports[1].Arity = 3 },
	} {
		m := full()
		change(&m)
		// Of what isn't there yet an End must have its bytes.
		for f := range m.Funcs {
			if f > 1 {
				m.Funcs[f] = ir.Func{Name: "f"}
			}
		}
		all = append(all, m)
	}
	return all
}

// P5.1: what was read and isn't well-formed: errors of ir.Check, with its places.
func TestReadOfWrongModules(t *testing.T) {
	for i, m := range wrongModules() {
		e := ir.Check(m)
		if e == nil {
			t.Errorf("%d is well-formed", i)
		}
		b := joined(parts(m))
		wantReadError(t, fmt.Sprint(i), b, fault.Text(e))
		// Its bytes are gone through first, to their end.
		wantReadError(t, fmt.Sprint(i, " and a byte"), append(b, 0), fmt.Sprint(len(b), " form"))
		wantReadError(t, fmt.Sprint(i, " without its last byte"), b[:len(b)-1], shortAt(parts(m), len(b)-1))
	}
	many := ir.Module{Funcs: slices.Repeat([]ir.Func{{Name: "f", Regs: 1, Blocks: []ir.Block{{End: ir.End{Op: ir.Return}}}}}, 24)}
	wantReadError(t, "24 of one name", joined(parts(many)), "1 symbol")
	many.Imports = slices.Repeat([]ir.Import{{Name: "i"}}, 24)
	wantReadError(t, "24 and 24", joined(parts(many)), "size")
}

// shortAt is the error of the parts' bytes cut short: at the part that isn't whole any more.
func shortAt(all []part, cut int) string {
	at := 0
	for _, p := range all {
		if at+len(p.bytes) > cut {
			break
		}
		at += len(p.bytes)
	}
	return fmt.Sprint(at, " short")
}

// P5.1: cut short at each place, and with more behind.
func TestCutShort(t *testing.T) {
	all := parts(full())
	b := joined(all)
	for cut := range b {
		wantReadError(t, fmt.Sprint("cut at ", cut), b[:cut], shortAt(all, cut))
	}
	for _, more := range [][]byte{{0}, {255}, {0x41, 0x56, 1, 0, 0, 0}, b} {
		wantReadError(t, "with more behind", slices.Concat(b, more), fmt.Sprint(len(b), " form"))
	}
	wantReadError(t, "nothing", nil, "0 short")
	wantReadError(t, "the first byte alone", []byte{0x41}, "0 short")
}

// P5.1: the first three bytes.
func TestFirstBytes(t *testing.T) {
	b := joined(parts(full()))
	for i := range 3 {
		for c := range 256 {
			other := slices.Clone(b)
			other[i] = byte(c)
			if other[i] == b[i] {
				continue
			}
			wantReadError(t, fmt.Sprint("byte ", i, " is ", c), other, "0 form")
			wantReadError(t, "alone", other[:3], "0 form")
		}
	}
}

// P5.1: each part by itself made wrong, at its place; nothing that is behind it counts.
func TestEachPartWrong(t *testing.T) {
	all := parts(full())
	at := 0
	for i, p := range all {
		for _, w := range wrongParts(p) {
			what := fmt.Sprint(p.kind, " at ", at, " as ", hex.EncodeToString(w.bytes))
			ahead := joined(all[:i])
			want := fmt.Sprint(at, " ", w.want)
			wantReadError(t, what, slices.Concat(ahead, w.bytes, joined(all[i+1:])), want)
			wantReadError(t, what+", alone", slices.Concat(ahead, w.bytes), want)
			wantReadError(t, what+", trash behind", slices.Concat(ahead, w.bytes, bytes.Repeat([]byte{0xff}, 30)), want)
		}
		at += len(p.bytes)
	}
}

type wrongPart struct {
	bytes []byte
	want  string
}

// wrongParts are p, wrong in each way that it can be.
func wrongParts(p part) []wrongPart {
	tooMany := bytes.Repeat([]byte{0x80}, 10)
	tooLarge := append(bytes.Repeat([]byte{0xff}, 9), 2)
	var all []wrongPart
	switch p.kind {
	case number:
		longer := append(slices.Clone(p.bytes[:len(p.bytes)-1]), p.bytes[len(p.bytes)-1]|0x80, 0)
		all = []wrongPart{
			{plain(p.most + 1), "range"}, {plain(127), "range"}, {plain(128), "range"}, {plain(256), "range"},
			{plain(math.MaxInt64), "range"}, {plain(math.MaxUint64), "range"},
			{longer, "form"}, {[]byte{0xff, 0}, "form"}, {[]byte{0x80, 0}, "form"}, {tooMany, "form"}, {tooLarge, "form"},
		}
	case signed:
		longer := append(slices.Clone(p.bytes[:len(p.bytes)-1]), p.bytes[len(p.bytes)-1]|0x80, 0)
		all = []wrongPart{{longer, "form"}, {tooMany, "form"}, {tooLarge, "form"}}
	case section:
		all = []wrongPart{
			{append([]byte{p.bytes[0] | 0x80, 0}, p.bytes[1:]...), "form"},
			{tooMany, "form"}, {tooLarge, "form"},
			{plain(1000), "short"}, {plain(math.MaxInt64), "short"}, {plain(math.MaxInt64 + 1), "short"}, {plain(math.MaxUint64), "short"},
		}
	case insnOp:
		for op := range 256 {
			if op < ir.Const || op > ir.Call {
				all = append(all, wrongPart{[]byte{byte(op)}, "tag"})
			}
		}
	case endOp:
		for op := range 256 {
			if op < ir.Jump || op > ir.Return {
				all = append(all, wrongPart{[]byte{byte(op)}, "tag"})
			}
		}
	}
	return all
}

// P5.1: what is at its bound is taken.
func TestAtTheBounds(t *testing.T) {
	all := parts(full())
	at := 0
	for i, p := range all {
		if p.kind == number {
			b := slices.Concat(joined(all[:i]), plain(p.most))
			// Nothing is wrong with the number, but that nothing is behind it.
			_, e := Read(b)
			if i == len(all)-1 {
				continue
			}
			if want := fmt.Sprint(len(b), " short"); fault.Text(e) != want {
				t.Errorf("%d at %d: got %q, want %q", p.most, at, fault.Text(e), want)
			}
		}
		at += len(p.bytes)
	}
	roundTrip(t, largest())
}

// largest stands at every limit.
func largest() ir.Module {
	block := ir.Block{End: ir.End{Op: ir.Branch, A: 7, To: 11, Else: 11}}
	for range 12 {
		block.Insns = append(block.Insns, ir.Insn{Op: ir.Call, D: 7, B: 23, Args: []int{7, 7, 7, 7}})
	}
	block.Insns[11] = ir.Insn{Op: ir.Load, D: 7, B: 15}
	m := ir.Module{Cells: slices.Repeat([]int64{math.MinInt64}, 16)}
	for f := range 24 {
		fn := ir.Func{Name: fmt.Sprintf("abcdefghij%02d", f), Arity: 4, Regs: 8}
		for range 12 {
			fn.Blocks = append(fn.Blocks, block)
		}
		m.Funcs = append(m.Funcs, fn)
	}
	return m
}

// roundTrip: P5.2, of a well-formed module.
func roundTrip(t *testing.T, m ir.Module) []byte {
	t.Helper()
	b, e := Write(m)
	if e != nil || !bytes.Equal(b, joined(parts(m))) {
		t.Fatalf("%v: got %x, %s", m, b, fault.Text(e))
	}
	back, e := Read(b)
	if e != nil || !ir.Equal(back, m) {
		t.Fatalf("%x: got %v, %s", b, back, fault.Text(e))
	}
	return b
}

// P5.2: what is written is read again; what is read has just its bytes, whatever they are.
func TestRoundTrips(t *testing.T) {
	source := rand.New(rand.NewSource(5))
	taken := 0
	for range 400 {
		b := roundTrip(t, someModule(source))
		for range 100 {
			other := slices.Clone(b)
			for range 1 + source.Intn(2) {
				other[3+source.Intn(len(b)-3)] = byte(source.Intn(1 << (1 + source.Intn(8))))
			}
			m, e := Read(other)
			if e != nil {
				continue
			}
			taken++
			if again, e := Write(m); e != nil || !bytes.Equal(again, other) {
				t.Errorf("%x was read, and is written as %x, %s", other, again, fault.Text(e))
			}
		}
	}
	if taken < 100 {
		t.Errorf("only %d were read", taken)
	}
}

// P5.2: of all short bytes behind the first three.
func TestShortBytes(t *testing.T) {
	taken := 0
	for n := range 1 << 20 {
		b := []byte{0x41, 0x56, 1, byte(n & 3), byte(n >> 2 & 31), byte(n >> 7 & 31), byte(n >> 12 & 127), byte(n >> 19)}
		for size := 6; size <= len(b); size++ {
			m, e := Read(b[:size])
			if e != nil {
				continue
			}
			taken++
			if again, e := Write(m); e != nil || !bytes.Equal(again, b[:size]) {
				t.Fatalf("%x was read, and is written as %x, %s", b[:size], again, fault.Text(e))
			}
		}
	}
	if taken == 0 {
		t.Error("none was read")
	}
}

// someModule is a well-formed one.
func someModule(source *rand.Rand) ir.Module {
	var m ir.Module
	for range 1 + source.Intn(3) {
		m.Cells = append(m.Cells, int64(source.Uint64())>>source.Intn(64))
	}
	for f := range source.Intn(4) {
		arity := source.Intn(3)
		fn := ir.Func{Name: fmt.Sprint("f", f), Arity: arity, Regs: max(1, arity) + source.Intn(3)}
		fn.Blocks = make([]ir.Block, 1+source.Intn(4))
		m.Funcs = append(m.Funcs, fn)
	}
	for _, name := range []string{"g", "h"}[:source.Intn(3)] {
		m.Imports = append(m.Imports, ir.Import{Name: name, Arity: source.Intn(5)})
	}
	for _, f := range m.Funcs {
		for b := range f.Blocks {
			f.Blocks[b] = someBlock(source, m, f)
		}
	}
	return m
}

func someBlock(source *rand.Rand, m ir.Module, f ir.Func) ir.Block {
	reg := func() int { return source.Intn(f.Regs) }
	cell := source.Intn(len(m.Cells))
	var b ir.Block
	for range source.Intn(6) {
		callee := source.Intn(len(m.Funcs) + len(m.Imports))
		call := ir.Insn{Op: ir.Call, D: reg(), B: callee}
		for range ir.Arity(m, callee) {
			call.Args = append(call.Args, reg())
		}
		b.Insns = append(b.Insns, []ir.Insn{
			{Op: ir.Const, D: reg(), N: int64(source.Uint64()) >> source.Intn(64)},
			{Op: ir.Move + source.Intn(2), D: reg(), A: reg()},
			{Op: ir.Add + source.Intn(9), D: reg(), A: reg(), B: reg()},
			{Op: ir.Load, D: reg(), B: cell},
			{Op: ir.Store, A: reg(), B: cell},
			{Op: ir.Input, D: reg()},
			{Op: ir.Output, A: reg()},
			call,
		}[source.Intn(8)])
	}
	to := func() int { return source.Intn(len(f.Blocks)) }
	b.End = []ir.End{{Op: ir.Jump, To: to()}, {Op: ir.Branch, A: reg(), To: to(), Else: to()}, {Op: ir.Return, A: reg()}}[source.Intn(3)]
	return b
}

// P5.1: Take, at its Reader's places, of all that is left.
func TestTake(t *testing.T) {
	m, e := Take(nil)
	wantError(t, "nil", m, e, "0 argument")

	b := joined(parts(full()))
	r := wire.Read(slices.Concat([]byte{9, 9}, b))
	r.Raw(2)
	m, e = Take(r)
	if e != nil || !ir.Equal(m, full()) || r.Left() != 0 || r.At() != len(b)+2 {
		t.Errorf("got %v, %s, left %d", m, fault.Text(e), r.Left())
	}
	m, e = Take(r)
	wantError(t, "a Reader that has nothing left", m, e, fmt.Sprint(len(b)+2, " short"))

	for _, c := range []struct {
		b    []byte
		want string
	}{
		{nil, "2 short"},
		{[]byte{0x41, 0x56}, "2 short"},
		{[]byte{0x41, 0x56, 2}, "2 form"},
		{[]byte{0x41, 0x56, 1, 17}, "5 range"},
		{[]byte{0x41, 0x56, 1, 0, 1, 1}, "7 short"},
		{[]byte{0x41, 0x56, 1, 0, 1, 0, 0, 1, 1, 1, 99}, "12 tag"},
		{[]byte{0x41, 0x56, 1, 0, 0, 0, 0}, "8 form"},
		{[]byte{0x41, 0x56, 1, 0, 0, 1, 0, 0}, "0 name"},
	} {
		r := wire.Read(slices.Concat([]byte{0x80, 1}, c.b))
		r.Uint(1000)
		m, e := Take(r)
		wantError(t, fmt.Sprint(c.b), m, e, c.want)
		if r.At() != 2 || r.Left() != len(c.b) {
			t.Errorf("%x: an error, but the Reader is at %d", c.b, r.At())
		}
	}
}

// P5.1: of a section it is the section's bytes that count, at the places of the whole.
func TestTakeOfASection(t *testing.T) {
	b := joined(parts(full()))
	w := wire.New()
	w.Section(b)
	w.Byte(7)
	at := len(w.Bytes()) - 1 - len(b)
	r := wire.Read(w.Bytes())
	s, _ := r.Section()
	m, e := Take(s)
	if e != nil || !ir.Equal(m, full()) || s.Left() != 0 || r.Left() != 1 {
		t.Errorf("got %v, %s, left %d, %d", m, fault.Text(e), s.Left(), r.Left())
	}
	w = wire.New()
	w.Section(b[:len(b)-1])
	w.Raw(b[len(b)-1:])
	s, _ = wire.Read(w.Bytes()).Section()
	m, e = Take(s)
	wantError(t, "a section that is cut short", m, e, fmt.Sprint(at+len(b)-1, " short"))
}

// P5.3: how much memory is asked for hangs on how many bytes there are, not on what they say.
func TestMemory(t *testing.T) {
	large := bytes.Repeat([]byte{0xff}, 1<<20)
	named := wire.New()
	named.Raw([]byte{0x41, 0x56, 1, 0, 1})
	named.Section(bytes.Repeat([]byte{'n'}, 1<<20))
	named.Raw([]byte{0, 1, 1, 0, 3, 0, 0})
	for what, b := range map[string][]byte{
		"many cells":        {0x41, 0x56, 1, 16},
		"many functions":    {0x41, 0x56, 1, 0, 24},
		"many blocks":       {0x41, 0x56, 1, 0, 24, 0, 0, 0, 12},
		"many instructions": {0x41, 0x56, 1, 0, 24, 0, 0, 0, 12, 12},
		"many arguments":    {0x41, 0x56, 1, 0, 24, 0, 0, 0, 12, 12, 17, 0, 0, 4},
		"many imports":      {0x41, 0x56, 1, 0, 0, 24},
		"a long name":       append([]byte{0x41, 0x56, 1, 0, 1}, plain(math.MaxInt64)...),
		"a longer name":     append([]byte{0x41, 0x56, 1, 0, 1}, plain(1<<40)...),
		"much behind":       append([]byte{0x41, 0x56, 1, 0, 0, 0}, large...),
		"nothing of it":     large,
		"a name that is":    named.Bytes(),
	} {
		if got, most := allocated(b), uint64(16*len(b)+1000); got > most {
			t.Errorf("%s: %d bytes asked for %d, more than %d", what, len(b), got, most)
		}
	}
	b := joined(parts(largest()))
	if got, most := allocated(b), uint64(200*len(b)); got > most {
		t.Errorf("%d bytes asked for %d, more than %d", len(b), got, most)
	}
}

// allocated is how many bytes of memory Read asks for, the least of some times.
func allocated(b []byte) uint64 {
	least := uint64(math.MaxUint64)
	for range 5 {
		var ahead, behind runtime.MemStats
		runtime.ReadMemStats(&ahead)
		Read(b)
		runtime.ReadMemStats(&behind)
		least = min(least, behind.TotalAlloc-ahead.TotalAlloc)
	}
	return least
}

// P5.3, P1: whatever the bytes are, there is an end.
func TestAnyBytesEnd(t *testing.T) {
	source := rand.New(rand.NewSource(53))
	for range 20000 {
		b := make([]byte, source.Intn(80))
		for i := range b {
			b[i] = byte(source.Intn(1 << (1 + source.Intn(8))))
		}
		copy(b, []byte{0x41, 0x56, 1})
		m, e := Read(b)
		if e != nil && !reflect.DeepEqual(m, ir.Module{}) {
			t.Errorf("%x: beside an error there is %v", b, m)
		}
	}
}

// P5.4: what is handed in isn't kept or changed, and answers are new memory.
func TestMemoryIsNotShared(t *testing.T) {
	room := make([]byte, 0, 1000)
	b := append(room, joined(parts(full()))...)
	whole := slices.Clone(b[:cap(b)])
	m, _ := Read(b)
	r := wire.Read(b)
	first, _ := Take(r.Copy())
	if !bytes.Equal(b[:cap(b)], whole) {
		t.Error("Read changed its bytes")
	}
	clear(b)
	if !ir.Equal(m, full()) || !ir.Equal(first, full()) {
		t.Error("the module changed with its bytes")
	}
	second, _ := Take(r)
	spoil(first)
	if !ir.Equal(second, full()) {
		t.Error("two answers share memory")
	}

	m = full()
	one, _ := Write(m)
	two, _ := Write(m)
	clear(one[:cap(one)])
	if !ir.Equal(m, full()) || !bytes.Equal(two, joined(parts(full()))) {
		t.Error("Write changed its module, or two answers share memory")
	}
	spoil(m)
	if !bytes.Equal(two, joined(parts(full()))) {
		t.Error("the bytes changed with the module")
	}
}

// P5.4: no list of an answer runs into another one.
func TestListsAreApart(t *testing.T) {
	m, _ := Read(joined(parts(full())))
	for f := range m.Funcs {
		for b := range m.Funcs[f].Blocks {
			for i := range m.Funcs[f].Blocks[b].Insns {
				_ = append(m.Funcs[f].Blocks[b].Insns[i].Args, 99)
			}
			_ = append(m.Funcs[f].Blocks[b].Insns, ir.Insn{Op: 99})
		}
		_ = append(m.Funcs[f].Blocks, ir.Block{})
	}
	if !ir.Equal(m, full()) {
		t.Error("a list that grows changes another one")
	}
}

// spoil changes all that is in m.
func spoil(m ir.Module) {
	for _, f := range m.Funcs {
		for _, b := range f.Blocks {
			for _, x := range b.Insns {
				clear(x.Args)
			}
			clear(b.Insns)
		}
		clear(f.Blocks)
	}
	clear(m.Funcs)
	clear(m.Cells)
	clear(m.Imports)
}
