package text_test

import (
	"errors"
	"fmt"
	"math/rand"
	"strings"
	"testing"
	"unsafe"

	"averment/api"
	"averment/fault"
	"averment/ir"
	"averment/text"
)

// full has each instruction, each End, calls of functions ahead, behind, of itself and of imports, and numbers at the edges.
func full() ir.Module {
	return ir.Module{
		Cells: []int64{7, -1, 0, -9223372036854775808, 9223372036854775807},
		Funcs: []ir.Func{
			{Name: "main", Regs: 3, Blocks: []ir.Block{
				{Insns: []ir.Insn{
					{Op: ir.Const, D: 1, N: -5},
					{Op: ir.Move, D: 2, A: 1},
					{Op: ir.Neg, D: 0, A: 2},
					{Op: ir.Add, D: 0, A: 1, B: 2},
					{Op: ir.Sub, D: 1, A: 2, B: 0},
					{Op: ir.Mul, D: 2, A: 0, B: 1},
					{Op: ir.Div, D: 0, A: 2, B: 1},
					{Op: ir.Rem, D: 1, A: 0, B: 2},
					{Op: ir.And, D: 2, A: 1, B: 0},
					{Op: ir.Xor, D: 0, A: 0, B: 1},
					{Op: ir.Less, D: 1, A: 2, B: 2},
					{Op: ir.Same, D: 2, A: 1, B: 1},
				}, End: ir.End{Op: ir.Branch, A: 1, To: 2, Else: 0}},
				{Insns: []ir.Insn{
					{Op: ir.Load, D: 1, B: 4},
					{Op: ir.Store, A: 2, B: 3},
					{Op: ir.Input, D: 2},
					{Op: ir.Output, A: 1},
					{Op: ir.Call, D: 1, B: 1, Args: []int{2, 1}},
					{Op: ir.Call, D: 2, B: 0},
					{Op: ir.Call, D: 0, B: 2},
					{Op: ir.Call, D: 1, B: 3, Args: []int{0, 0, 2, 1}},
					{Op: ir.Const, D: 0, N: -9223372036854775808},
					{Op: ir.Const, D: 1, N: 9223372036854775807},
					{Op: ir.Const, D: 2},
				}, End: ir.End{Op: ir.Jump, To: 2}},
				{End: ir.End{Op: ir.Return, A: 2}},
			}},
			{Name: "f9", Arity: 2, Regs: 8, Blocks: []ir.Block{{End: ir.End{Op: ir.Return, A: 7}}}},
		},
		Imports: []ir.Import{{Name: "ask"}, {Name: "block", Arity: 4}},
	}
}

const fullText = `cells 7 -1 0 -9223372036854775808 9223372036854775807
func main 0 3
block
const 1 -5
move 2 1
neg 0 2
add 0 1 2
sub 1 2 0
mul 2 0 1
div 0 2 1
rem 1 0 2
and 2 1 0
xor 0 0 1
less 1 2 2
same 2 1 1
branch 1 2 0
block
load 1 4
store 2 3
input 2
output 1
call 1 f9 2 1
call 2 main
call 0 ask
call 1 block 0 0 2 1
const 0 -9223372036854775808
const 1 9223372036854775807
const 2 0
jump 2
block
return 2
func f9 2 8
block
return 7
import ask 0
import block 4
`

// wantText: m has just that text, of which it is parsed again.
func wantText(t *testing.T, m ir.Module, want string) {
	t.Helper()
	if got := text.Print(m); got != want {
		t.Errorf("got %q, want %q", got, want)
	}
	if got, e := text.Parse(want); e != nil || !ir.Equal(got, m) {
		t.Errorf("%q: %s, %v, want %v", want, fault.Text(e), got, m)
	}
}

// P24.1, P24.2: modules by hand and their texts.
func TestTexts(t *testing.T) {
	wantText(t, ir.Module{}, "cells\n")
	wantText(t, ir.Module{Cells: []int64{0}}, "cells 0\n")
	wantText(t, ir.Module{Imports: []ir.Import{{Name: "a", Arity: 3}}}, "cells\nimport a 3\n")
	wantText(t, full(), fullText)
	wantText(t, largest(), printed(largest()))
	if n := strings.Count(printed(largest()), "\n"); n != 1+23*(1+12*14)+1 {
		t.Error("the largest has other lines", n)
	}
	// Its last import made a function: so many lines there are at most.
	m := largest()
	m.Funcs = append(m.Funcs, ir.Func{Name: m.Imports[0].Name, Arity: 4, Regs: 8, Blocks: m.Funcs[0].Blocks})
	m.Imports = nil
	wantText(t, m, printed(m))
	if n := strings.Count(printed(m), "\n"); n != 1+24*(1+12*14) {
		t.Error("the longest has other lines", n)
	}
}

// P24.1: each word of an instruction, and of an End, by itself.
func TestEachLine(t *testing.T) {
	for _, c := range []struct {
		x    ir.Insn
		want string
	}{
		{ir.Insn{Op: ir.Const, D: 1, N: 2}, "const 1 2"},
		{ir.Insn{Op: ir.Move, D: 1, A: 2}, "move 1 2"},
		{ir.Insn{Op: ir.Neg, D: 1, A: 2}, "neg 1 2"},
		{ir.Insn{Op: ir.Add, D: 1, A: 2, B: 3}, "add 1 2 3"},
		{ir.Insn{Op: ir.Sub, D: 1, A: 2, B: 3}, "sub 1 2 3"},
		{ir.Insn{Op: ir.Mul, D: 1, A: 2, B: 3}, "mul 1 2 3"},
		{ir.Insn{Op: ir.Div, D: 1, A: 2, B: 3}, "div 1 2 3"},
		{ir.Insn{Op: ir.Rem, D: 1, A: 2, B: 3}, "rem 1 2 3"},
		{ir.Insn{Op: ir.And, D: 1, A: 2, B: 3}, "and 1 2 3"},
		{ir.Insn{Op: ir.Xor, D: 1, A: 2, B: 3}, "xor 1 2 3"},
		{ir.Insn{Op: ir.Less, D: 1, A: 2, B: 3}, "less 1 2 3"},
		{ir.Insn{Op: ir.Same, D: 1, A: 2, B: 3}, "same 1 2 3"},
		{ir.Insn{Op: ir.Load, D: 2, B: 1}, "load 2 1"},
		{ir.Insn{Op: ir.Store, A: 2, B: 1}, "store 2 1"},
		{ir.Insn{Op: ir.Input, D: 3}, "input 3"},
		{ir.Insn{Op: ir.Output, A: 3}, "output 3"},
		{ir.Insn{Op: ir.Call, D: 3, B: 0, Args: []int{1, 2}}, "call 3 f 1 2"},
		{ir.Insn{Op: ir.Call, D: 3, B: 1}, "call 3 g"},
	} {
		m := ir.Module{Cells: []int64{4, 5}, Funcs: []ir.Func{{Name: "f", Arity: 2, Regs: 4, Blocks: []ir.Block{{Insns: []ir.Insn{c.x}, End: ir.End{Op: ir.Return}}}}}, Imports: []ir.Import{{Name: "g"}}}
		wantText(t, m, "cells 4 5\nfunc f 2 4\nblock\n"+c.want+"\nreturn 0\nimport g 0\n")
	}
	for _, c := range []struct {
		e    ir.End
		want string
	}{
		{ir.End{Op: ir.Jump, To: 1}, "jump 1"},
		{ir.End{Op: ir.Branch, A: 3, To: 2, Else: 1}, "branch 3 2 1"},
		{ir.End{Op: ir.Branch, A: 3, To: 1, Else: 1}, "branch 3 1 1"},
		{ir.End{Op: ir.Return, A: 3}, "return 3"},
	} {
		back := ir.Block{End: ir.End{Op: ir.Return}}
		m := ir.Module{Funcs: []ir.Func{{Name: "f", Regs: 4, Blocks: []ir.Block{{End: c.e}, back, back}}}}
		wantText(t, m, "cells\nfunc f 0 4\nblock\n"+c.want+"\nblock\nreturn 0\nblock\nreturn 0\n")
	}
}

// P24.1: a module that isn't well-formed has an empty text, whatever is wrong with it.
func TestNotWellFormed(t *testing.T) {
	insn := func(m *ir.Module) *ir.Insn { return &m.Funcs[0].Blocks[1].Insns[4] }
	end := func(m *ir.Module) *ir.End { return &m.Funcs[0].Blocks[0].End }
	for about, spoil := range map[string]func(m *ir.Module){
		"a cell too many":         func(m *ir.Module) { m.Cells = make([]int64, 17) },
		"functions too many":      func(m *ir.Module) { m.Imports = make([]ir.Import, 23) },
		"a name":                  func(m *ir.Module) { m.Funcs[1].Name = "f 9" },
		"no name":                 func(m *ir.Module) { m.Funcs[1].Name = "" },
		"a name twice":            func(m *ir.Module) { m.Funcs[1].Name = "main" },
		"a name of an import":     func(m *ir.Module) { m.Imports[0].Name = "main" },
		"imports the wrong way":   func(m *ir.Module) { m.Imports[0].Name = "x" },
		"arguments":               func(m *ir.Module) { m.Funcs[1].Arity = 5 },
		"registers":               func(m *ir.Module) { m.Funcs[0].Regs = 9 },
		"no block":                func(m *ir.Module) { m.Funcs[1].Blocks = nil },
		"an instruction's Op":     func(m *ir.Module) { insn(m).Op = 18 },
		"no Op":                   func(m *ir.Module) { insn(m).Op = 0 },
		"an Op below 0":           func(m *ir.Module) { insn(m).Op = -1 },
		"a register":              func(m *ir.Module) { insn(m).D = 3 },
		"a field that isn't used": func(m *ir.Module) { insn(m).A = 1 },
		"a function":              func(m *ir.Module) { insn(m).B = 4 },
		"an argument":             func(m *ir.Module) { insn(m).Args[0] = -1 },
		"an argument too few":     func(m *ir.Module) { insn(m).Args = insn(m).Args[:1] },
		"an End's Op":             func(m *ir.Module) { end(m).Op = 4 },
		"an End without Op":       func(m *ir.Module) { end(m).Op = 0 },
		"a block that isn't":      func(m *ir.Module) { end(m).To = 3 },
		"a cell that isn't":       func(m *ir.Module) { m.Cells = m.Cells[:4] },
	} {
		m := full()
		spoil(&m)
		if got := text.Print(m); ir.Check(m) == nil || got != "" {
			t.Errorf("%s: got %q", about, got)
		}
	}
}

// wantForm: s is no module's text.
func wantForm(t *testing.T, s string) {
	t.Helper()
	m, e := text.Parse(s)
	if fault.Text(e) != "form" || !errors.Is(e, api.ErrForm) || !ir.Equal(m, ir.Module{}) {
		t.Errorf("%.200q: got %s, %v", s, fault.Text(e), m)
	}
}

// P24.1: texts by hand that are nobody's.
func TestForm(t *testing.T) {
	const head, tail = "cells 1 2\nfunc f 2 3\nblock\n", "return 0\nimport g 1\n"
	for _, line := range []string{"", "const 0 1\n", "call 2 g 0\n", "call 2 f 0 1\n", "load 0 1\n", "branch 0 0 0\nblock\n"} {
		if _, e := text.Parse(head + line + tail); e != nil {
			t.Error(line, fault.Text(e))
		}
	}
	for _, line := range []string{
		"const 0\n", "const 0 1 2\n", "const\n", "const 0 01\n", "const 0 00\n", "const 0 -0\n", "const 0 -\n", "const 0 +1\n", "const 0 --1\n", "const 0 -01\n",
		"const 0 1_0\n", "const 0 0x1\n", "const 0 1e1\n", "const 0 1.0\n", "const 0 a\n", "const 0  1\n", "const 0 1 \n", " const 0 1\n", "const\t0 1\n",
		"const 0 9223372036854775808\n", "const 0 -9223372036854775809\n", "const 0 18446744073709551616\n", "const 0 99999999999999999999999\n",
		"const 3 1\n", "const -1 1\n", "const 18446744073709551616 1\n", "add 0 1\n", "add 0 1 2 0\n", "add 0 1 3\n", "add 0 3 1\n", "add g 0 1\n",
		"load 0 2\n", "load 0 -1\n", "store 0 2\n", "store 3 0\n", "input\n", "input 0 0\n", "output\n", "output 0 0\n", "move 0 1 2\n", "neg 0\n",
		"call 0 h\n", "call 0 g\n", "call 0 g 0 0\n", "call 0 f 0\n", "call 0 f 0 3\n", "call 0\n", "call\n", "call g 0 0\n", "call 0 1 0\n", "call 0 0\n", "call 0  g 0\n", "call 0 G 0\n", "call 0 g 0 \n", "call 0 f 0 01\n",
		"Const 0 1\n", "nop\n", "constant 0 1\n", "\n", " \n", "0\n", "1 0 1\n", "end\n", "#\n",
		"return 0\n", "jump 0\n", "block\n", "return 0\nblock\n ", "return 0\nblock 1\n", "return 0\nblock \n", "return\nblock\n", "return 3\nblock\n", "return 0 0\nblock\n",
		"jump 1\n", "jump 2\nblock\n", "jump -1\nblock\n", "jump\nblock\n", "jump 0 0\nblock\n", "branch 0 0\nblock\n", "branch 0 0 2\nblock\n", "branch 0 2 0\nblock\n", "branch 3 0 0\nblock\n", "branch 0 0 0 0\nblock\n",
		"const 0 1\r\n", "const 0 1\x00\n", "const 0 1\n\n", "\xff\n", "const 0 \xd9\xa1\n",
		"import a 0\n", "func a 0 1\n", "cells\n", "cells 1\n",
	} {
		wantForm(t, head+line+tail)
	}
	for _, s := range []string{
		"", "\n", " ", "\n\n", "cells", "cell\n", "Cells\n", "cells \n", " cells\n", "cells\n\n", "\ncells\n", "cells\r\n", "cells\ncells\n", "cells 1\ncells 2\n", "cells 05\n", "cells -0\n", "cells -\n", "cells +1\n", "cells 1  2\n",
		"cells a\n", "cells 9223372036854775808\n", "cells" + strings.Repeat(" 0", 17) + "\n", "cells" + strings.Repeat(" 0", 18) + "\n",
		"func f 0 1\nblock\nreturn 0\n", "cells\nblock\nreturn 0\n", "cells\nreturn 0\n", "cells\nconst 0 1\n", "cells\nfunc f 0 1\n", "cells\nfunc f 0 1\nreturn 0\n", "cells\nfunc f 0 1\nblock\n", "cells\nfunc\n",
		"cells\nfunc f 0\nblock\nreturn 0\n", "cells\nfunc f 0 1 1\nblock\nreturn 0\n", "cells\nfunc f 00 1\nblock\nreturn 0\n", "cells\nfunc f 2 1\nblock\nreturn 0\n", "cells\nfunc f 0 9\nblock\nreturn 0\n", "cells\nfunc f 5 8\nblock\nreturn 0\n",
		"cells\nfunc F 0 1\nblock\nreturn 0\n", "cells\nfunc 1f 0 1\nblock\nreturn 0\n", "cells\nfunc a234567890123 0 1\nblock\nreturn 0\n", "cells\nfunc 0 1\nblock\nreturn 0\n",
		"cells\nfunc f 0 1\nblock\nreturn 0\nfunc f 0 1\nblock\nreturn 0\n", "cells\nfunc f 0 1\nblock\nreturn 0\nimport f 0\n",
		"cells\nimport b 0\nimport a 0\n", "cells\nimport a 0\nimport a 0\n", "cells\nimport a\n", "cells\nimport a 5\n", "cells\nimport a -1\n", "cells\nimport a 0 0\n", "cells\nimport 0\n", "cells\nimport a 00\n", "import a 0\ncells\n",
		"cells\nimport a 0\nfunc f 0 1\nblock\nreturn 0\n", "cells\nfunc f 0 1\nimport a 0\nblock\nreturn 0\n",
		printed(full()) + "\n", printed(full()) + " ", printed(full()) + "cells\n", printed(full()) + printed(full()),
	} {
		wantForm(t, s)
	}
	// Ahead of its functions it is the text of its cells; behind that something is called that isn't there yet.
	texts := 0
	for n := range fullText {
		if wantModel(t, fullText[:n]) {
			texts++
		}
	}
	if texts != 1 {
		t.Error("texts cut short", texts)
	}
}

// wantModel: Parse tells of s what the chapter's words do; it tells whether s is a text.
func wantModel(t *testing.T, s string) bool {
	t.Helper()
	want, ok := parsed(s)
	if !ok {
		wantForm(t, s)
		return false
	}
	got, e := text.Parse(s)
	if e != nil || !ir.Equal(got, want) || text.Print(got) != s {
		t.Errorf("%q: got %s, %v, want %v", s, fault.Text(e), got, want)
	}
	return true
}

// P24.1, P24.2: each byte of a text made each other one, left out, or twice: only what is a module's text is parsed.
func TestEachByte(t *testing.T) {
	const s = "cells 5 -7\nfunc f1 1 2\nblock\nadd 0 0 1\ncall 1 g 0\nbranch 1 0 1\nblock\nstore 1 1\ncall 0 f1 1\nreturn 1\nimport g 1\n"
	texts := 0
	for i := range len(s) {
		for c := range 256 {
			if wantModel(t, s[:i]+string([]byte{byte(c)})+s[i+1:]) {
				texts++
			}
			if c%16 == 0 || c < 128 && strings.IndexByte(s+"0123456789+", byte(c)) >= 0 {
				wantModel(t, s[:i]+string([]byte{byte(c)})+s[i:])
			}
		}
		wantModel(t, s[:i]+s[i+1:])
		wantForm(t, s[:i]+" "+s[i:])
		wantForm(t, s[:i]+"\n"+s[i:])
	}
	// The text itself, for each byte, and others with another digit.
	if texts < len(s)+40 {
		t.Error("too few are texts", texts, len(s))
	}
}

// P24.1, P24.2: lines and words that are left out, twice, or in another order.
func TestOtherOrder(t *testing.T) {
	lines := strings.SplitAfter(strings.TrimSuffix(fullText, "\n"), "\n")
	lines[len(lines)-1] += "\n"
	join := func(list []string) string { return strings.Join(list, "") }
	for i := range lines {
		wantModel(t, join(lines[:i])+join(lines[i+1:]))
		wantModel(t, join(lines[:i+1])+join(lines[i:]))
		for j := range i {
			wantModel(t, join(lines[:j])+lines[i]+join(lines[j+1:i])+lines[j]+join(lines[i+1:]))
			wantModel(t, join(lines[:j])+lines[i]+join(lines[j:i])+join(lines[i+1:]))
		}
		words := strings.Split(strings.TrimSuffix(lines[i], "\n"), " ")
		for j := range words {
			for k := range words {
				other := append([]string(nil), words...)
				other[j], other[k] = other[k], other[j]
				wantModel(t, join(lines[:i])+strings.Join(other, " ")+"\n"+join(lines[i+1:]))
			}
			wantModel(t, join(lines[:i])+strings.Join(append(append([]string(nil), words[:j]...), words[j+1:]...), " ")+"\n"+join(lines[i+1:]))
			wantModel(t, join(lines[:i])+strings.Join(append(append([]string(nil), words[:j+1]...), words[j:]...), " ")+"\n"+join(lines[i+1:]))
		}
	}
}

// otherText is s with something else in it here or there.
func otherText(source *rand.Rand, s string) string {
	words := []string{"0", "1", "-1", "7", "05", "-", "+1", "9223372036854775808", "", "f", "main", "n0", "block", "cells", "func f 0 1", "import zz 0", "call", "jump", "return 0", "\n", " "}
	lines := strings.Split(s, "\n")
	for range 1 + source.Intn(2) {
		i := source.Intn(len(lines))
		parts := strings.Split(lines[i], " ")
		j := source.Intn(len(parts))
		switch source.Intn(5) {
		case 0:
			parts[j] = words[source.Intn(len(words))]
		case 1:
			parts = append(parts[:j], parts[j+1:]...)
		case 2:
			parts = append(parts, words[source.Intn(len(words))])
		case 3:
			k := source.Intn(len(lines))
			lines[i], lines[k] = lines[k], lines[i]
			continue
		case 4:
			lines = append(lines[:i+1], lines[i:]...)
			continue
		}
		lines[i] = strings.Join(parts, " ")
	}
	return strings.Join(lines, "\n")
}

// P24.2: modules by chance are parsed of what is printed; of texts that resemble theirs, those that are some module's.
func TestSomeTexts(t *testing.T) {
	texts := 0
	some(t, 1, 1500, func(source *rand.Rand, m ir.Module) {
		wantText(t, m, printed(m))
		for range 6 {
			if s := otherText(source, printed(m)); s != printed(m) && wantModel(t, s) {
				texts++
			}
		}
	})
	if texts < 500 {
		t.Error("too few are texts", texts)
	}
}

// P24.2: two modules that aren't equal have two texts.
func TestTwoTexts(t *testing.T) {
	of := make(map[string]ir.Module)
	some(t, 2, 1000, func(_ *rand.Rand, m ir.Module) {
		s := text.Print(m)
		if other, ok := of[s]; ok && !ir.Equal(other, m) {
			t.Error("one text of two", s)
		}
		of[s] = m
	})
}

// P24.3, P1: whatever the text is, there is an end, however long it is.
func TestAnyTextEnds(t *testing.T) {
	const n = 1 << 20
	for _, s := range []string{
		strings.Repeat("\n", n), strings.Repeat(" ", n), strings.Repeat("0", n), strings.Repeat("\x00", n), "cells" + strings.Repeat(" 0", n), "cells " + strings.Repeat("0", n) + "\n",
		"cells\n" + strings.Repeat("func f 0 1\nblock\nreturn 0\n", n/8), "cells\nfunc f 0 1\n" + strings.Repeat("block\nreturn 0\n", n/8), "cells\nfunc f 0 1\nblock\n" + strings.Repeat("call 0 f\n", n/8) + "return 0\n",
		"cells\n" + strings.Repeat("import a 0\n", n/8), "cells\nfunc " + strings.Repeat("a", n) + " 0 1\nblock\nreturn 0\n", "cells\nfunc f 0 1\nblock\ncall 0 f" + strings.Repeat(" 0", n) + "\nreturn 0\n",
		strings.Repeat(fullText, 100),
	} {
		wantForm(t, s)
	}
	source := rand.New(rand.NewSource(3))
	for range 20000 {
		b := make([]byte, source.Intn(60))
		for i := range b {
			b[i] = "cels func0 1\nbkrt -9\xff"[source.Intn(20)]
		}
		wantModel(t, string(b))
		wantModel(t, "cells\n"+string(b)+"\n")
	}
}

// isPiece tells whether name lies where text does.
func isPiece(name, text string) bool {
	from, at := uintptr(unsafe.Pointer(unsafe.StringData(text))), uintptr(unsafe.Pointer(unsafe.StringData(name)))
	return at >= from && at < from+uintptr(len(text))
}

// P24.4: Print changes nothing, and no answer of Parse is part of another one; names aren't pieces of the text.
func TestMemory(t *testing.T) {
	m := full()
	for _, f := range m.Funcs {
		for b := range f.Blocks {
			f.Blocks[b].Insns = append(f.Blocks[b].Insns, ir.Insn{Op: 99})[:len(f.Blocks[b].Insns)]
		}
	}
	before := fmt.Sprintf("%v", m)
	text.Print(m)
	if fmt.Sprintf("%v", m) != before || m.Funcs[0].Blocks[0].Insns[:13][12].Op != 99 {
		t.Error("Print changed its module")
	}
	a, e := text.Parse(fullText)
	b, f := text.Parse(fullText)
	if e != nil || f != nil {
		t.Fatal(fault.Text(e), fault.Text(f))
	}
	for f := range len(a.Funcs) + len(a.Imports) {
		if isPiece(ir.Name(a, f), fullText) {
			t.Error("the text is kept", f)
		}
	}
	a.Cells[0], a.Imports[0].Name, a.Funcs[1].Name = 99, "spoilt", "spoilt"
	for _, fn := range a.Funcs {
		for i := range fn.Blocks {
			fn.Blocks[i].End = ir.End{}
			for j := range fn.Blocks[i].Insns {
				clear(fn.Blocks[i].Insns[j].Args)
				fn.Blocks[i].Insns[j].Op = 0
			}
		}
	}
	if c, e := text.Parse(fullText); e != nil || !ir.Equal(b, full()) || !ir.Equal(c, full()) {
		t.Error("an answer is kept")
	}
}
