package shell

import (
	"bytes"
	"fmt"
	"math"
	"slices"
	"strings"
	"testing"

	"averment/annot"
	"averment/fault"
	"averment/ir"
	"averment/merge"
	"averment/reload"
	"averment/solve"
	"averment/table"
	"averment/text"
)

// P25.1: the document's example.
func TestExample(t *testing.T) {
	got := Lines([]string{"put a cells;func main 0 1;block;const 0 5;output 0;return 0", "run a 10"})
	if !slices.Equal(got, []string{"ok", "done 5 out 5"}) {
		t.Error(got)
	}
}

// P25.1: one line behind the other, each with its reply.
func TestLines(t *testing.T) {
	list := []string{
		"slots", "put a " + count, "slots", "show a", "run a 100 1 0", "solve a", "facts a", "save a whole", "load b a", "save b sparse", "load c b",
		"put d " + caller, "show d", "solve d", "save d whole", "put e " + callee, "solve e g small", "save e sparse", "merge f d e", "show f", "run f 20 6", "slots",
		"drop d", "slots", "show d", "drop f", "slots",
	}
	whole, sparse := fileOf(t, count, false), fileOf(t, count, true)
	one, two := fileOf(t, caller, false), fileOf(t, callee, true, 0, 1)
	both, e := merge.Merge(one, two)
	if e != nil {
		t.Fatal(fault.Text(e))
	}
	m := moduleOf(t, count)
	replies := []string{
		"slots", "ok", "slots a", count, "done 7 out 6 7", "steps 6", strings.ReplaceAll(strings.TrimSuffix(text.Facts(m, solvedOf(t, m)), "\n"), "\n", ";"), bytesOf(whole), "insns 6 edges 2", bytesOf(sparse), "insns 6 edges 1",
		"ok", caller, "steps 2", bytesOf(one), "ok", "steps 4", bytesOf(two), bytesOf(both), "cells 7 9;func main 0 2;block;input 0;const 1 3;and 0 0 1;call 1 g 0;output 1;return 1;func g 1 2;block;load 1 1;add 0 0 1;return 0;func small 0 1;block;const 0 2;call 0 g 0;return 0", "done 11 out 11", "slots a b c d e f",
		"ok", "slots a b c e f", "no none", "ok", "slots a b c e",
	}
	got := Lines(list)
	if len(got) != len(list) {
		t.Fatal(got)
	}
	for i, line := range list {
		if got[i] != replies[i] {
			t.Errorf("%q: got %q, want %q", line, got[i], replies[i])
		}
	}
	if got := Lines(nil); len(got) != 0 {
		t.Error(got)
	}
}

// whats are lines that are none, if there are slots a and b with all that they may have.
func whats() []string {
	list := []string{
		"", " ", "  ", ";", "a", "what", "no", "ok", "help", "Slots", "SLOTS", "slot", "slotss", "put", "solve", "save", "spoil", "load", "merge", "run", "show", "facts", "drop",
		"put a", "put " + none, "save a", "save whole", "spoil a", "spoil a 0", "load a", "merge a", "merge a b", "run a",
		"slots a", "show a b", "facts a b", "drop a b", "save a whole whole", "spoil a 0 0 0", "load a b c", "merge a b c d",
		"puts a cells", "Put a cells", "PUT a cells", "solve\ta", "run\na 10",
		"save a Whole", "save a WHOLE", "save a all", "save a w", "save a wholes", "save a 0",
		"spoil a x 0", "spoil a 0 x", "spoil a 00 0", "spoil a 0 00", "spoil a 01 0", "spoil a 0 01", "spoil a -0 0", "spoil a 0 -0", "spoil a +0 0", "spoil a 0 +0", "spoil a - 0", "spoil a 0 -", "spoil a 0x0 0", "spoil a 0 1e1", "spoil a 0 1.0",
		"spoil a 0 256", "spoil a 0 -1", "spoil a 0 1000", "spoil a 0 9223372036854775807", "spoil a 0 9223372036854775808", "spoil a 9223372036854775808 0", "spoil a -9223372036854775809 0",
		"run a x", "run a -", "run a 05", "run a 00", "run a -0", "run a +1", "run a -1", "run a 1001", "run a 10000", "run a 9223372036854775807", "run a 9223372036854775808", "run a 18446744073709551616",
		"run a 1 x", "run a 1 1 x", "run a 1 05", "run a 1 -0", "run a 1 -", "run a 1 +1", "run a 1 9223372036854775808", "run a 1 -9223372036854775809", "run a 1 1_0", "run a 1 ;", "run a 1 \xff",
	}
	for _, line := range goodLines() {
		first := strings.Index(line+" ", " ")
		list = append(list, " "+line, line+" ", strings.Replace(line, " ", "  ", 1), line[:first]+"  "+line[first:], "\t"+line, "x"+line, strings.ToUpper(line[:1])+line[1:])
		if i := strings.LastIndex(line, " "); i >= 0 {
			list = append(list, line[:i]+" "+line[i:], line[:i+1])
		}
		for _, name := range badNames {
			list = append(list, withName(line, name)...)
		}
	}
	return slices.DeleteFunc(list, func(line string) bool { return line == "slots" })
}

// badNames are words that no slot can have.
var badNames = []string{"A", "aB", "1a", "0", "-1", "a_b", "a-b", "a.b", "a;", "a\n", "a\x00", "\xe4", "\u00e4", "a234567890123", "a2345678901234567890"}

// goodLines are of each line one that is taken, if there are slots a and b with all that they may have, or none that has no place.
func goodLines() []string {
	return []string{"put a " + five, "solve a", "solve a main", "save a whole", "save a sparse", "spoil a 0 65", "load a b", "merge c a b", "run a 10", "run a 10 1 2", "show a", "facts a", "slots", "drop a"}
}

// withName are line with that name in the place of each a, b or c that stands where a slot's name does.
func withName(line, name string) []string {
	var list []string
	words := strings.Split(line, " ")
	names := 1
	switch words[0] {
	case "load":
		names = 2
	case "merge":
		names = 3
	case "slots":
		names = 0
	}
	for i := 1; i <= names; i++ {
		other := slices.Clone(words)
		other[i] = name
		list = append(list, strings.Join(other, " "))
	}
	return list
}

// P25.1: lines that are none, whatever there is; a nil Shell says so of each line.
func TestWhat(t *testing.T) {
	lines := append(whats(), "put a b  "+five, "put a cells  1", "put a cells;  func main 0 1", "put a  ", "put  a "+five, "solve a main  main", "run a 1  1", "run a  1")
	for name, s := range map[string]*Shell{
		"empty":   New(),
		"some":    after(t, "put a "+five, "solve a", "save a whole", "put b "+lib, "solve b lib", "save b sparse"),
		"full":    full(t),
		"made so": {},
	} {
		before := dump(s)
		for _, line := range lines {
			if got := s.Do(line); got != "what" {
				t.Errorf("%s: %.100q: got %q", name, line, got)
			}
		}
		if dump(s) != before {
			t.Error(name, "changed")
		}
	}
	var s *Shell
	for _, line := range append(lines, goodLines()...) {
		want(t, s, line, "what")
	}
}

// P25.1: names that slots can have, wherever one may stand.
func TestNames(t *testing.T) {
	for _, name := range []string{"a", "z", "a0", "z9", "aaaaaaaaaaaa", "a23456789012", "main", "put", "slots", "no", "func", "q0q"} {
		s := New()
		for _, line := range []string{
			"put N " + five, "solve N", "save N sparse", "spoil N 0 65", "load x1 N", "load N x1", "put y1 " + lib, "solve y1 lib", "save y1 whole",
			"merge z1 N y1", "merge z1 y1 N", "merge N x1 y1", "show N", "facts N", "run N 9", "drop N",
		} {
			line = strings.ReplaceAll(line, "N", name)
			if reply := s.Do(line); reply == "what" || strings.HasPrefix(reply, "no") {
				t.Errorf("%q: %s", line, reply)
			}
		}
		want(t, s, "slots", "slots x1 y1 z1")
	}
}

// P25.1: what is put is there, without Table and file; what isn't taken leaves all as it was.
func TestPut(t *testing.T) {
	s := after(t, "put a "+five, "solve a", "save a whole")
	for _, lines := range []string{
		"cell", "cells;", ";cells", "cells;;", ";", ";;", "-", "cells 05", "Cells", "cells;func main 0 1", "cells;func main 0 1;block;const 0 5", "cells;func main 0 1;block;call 0 g;return 0", five + ";", five + ";return 0",
		five + "\n", "cells;import b 0;import a 0", "cells" + strings.Repeat(" 0", 17), "cells:func main 0 1:block:return 0", "put a cells", "what",
	} {
		wantNothing(t, s, "put a "+lines, "no form")
		wantNothing(t, s, "put new "+lines, "no form")
	}
	want(t, s, "facts a", "func main called returns P =5 5..5 odd;block 0 reached live;reg 0 Z =0 0..0 even 0")
	for _, lines := range []string{five, none, count, "cells" + strings.Repeat(" 0", 16), "cells 9223372036854775807 -9223372036854775808 -1", caller, "cells;import ab 0;import b 4"} {
		s := after(t, "put a "+five, "solve a", "save a whole", "load b a")
		want(t, s, "put a "+lines, "ok")
		want(t, s, "show a", lines)
		for _, line := range []string{"save a whole", "facts a", "spoil a 0 65", "load c a", "load a a", "merge c a b", "merge c b a"} {
			wantNothing(t, s, line, "no none")
		}
		want(t, s, "run b 10", "done 5 out 5")
	}
}

// P25.1: what is found, from main and from roots; it takes the place of what was told, but the file stays.
func TestSolve(t *testing.T) {
	m := moduleOf(t, callee)
	tells := func(x table.Table) string {
		return strings.ReplaceAll(strings.TrimSuffix(text.Facts(m, x), "\n"), "\n", ";")
	}
	s := after(t, "put a "+callee)
	for _, c := range []struct {
		line  string
		roots []int
	}{
		{"solve a", nil}, {"solve a g", []int{0}}, {"solve a small", []int{1}}, {"solve a g small", []int{0, 1}}, {"solve a small g small small", []int{1, 0, 1, 1}}, {"solve a", nil},
	} {
		x, steps, e := solve.Solve(m, c.roots, solve.Bound(m))
		if e != nil {
			t.Fatal(fault.Text(e))
		}
		want(t, s, c.line, fmt.Sprint("steps ", steps))
		want(t, s, "facts a", tells(x))
	}
	for _, line := range []string{"solve a h", "solve a g h", "solve a h g", "solve a G", "solve a 0", "solve a -", "solve a a", "solve a g;", "solve a cells"} {
		wantNothing(t, s, line, "no symbol")
	}
	s = after(t, "put a "+none, "put b "+caller, "put c "+five)
	want(t, s, "solve a", "steps 0")
	want(t, s, "facts a", "")
	want(t, s, "save a whole", "bytes 11")
	want(t, s, "solve c", "steps 2")
	wantNothing(t, s, "solve a main", "no symbol")
	// An import is none of the functions.
	wantNothing(t, s, "solve b g", "no symbol")
	wantNothing(t, s, "solve b main g", "no symbol")
	s = after(t, "put a "+lib, "solve a", "save a whole", "solve a lib", "load b a")
	want(t, s, "facts b", "func lib idle ends;block 0 not live 0;block 1 not live;block 2 not live 0")
	if strings.HasPrefix(s.Do("facts a"), "func lib idle") {
		t.Error("not found again")
	}
}

// P25.1: files are annot.Write's, whole and sparse.
func TestSave(t *testing.T) {
	for _, lines := range []string{none, five, count, caller, callee, lib} {
		s := after(t, "put a "+lines, "solve a")
		for _, how := range []string{"whole", "sparse", "whole"} {
			b := fileOf(t, lines, how == "sparse")
			want(t, s, "save a "+how, bytesOf(b))
			if !bytes.Equal(s.slots[0].file, b) {
				t.Error(lines, how, "got", s.slots[0].file, "want", b)
			}
		}
	}
	if len(fileOf(t, count, false)) == len(fileOf(t, count, true)) {
		t.Error("both files are as long")
	}
	s := after(t, "put a "+five)
	wantNothing(t, s, "save a whole", "no none")
	wantNothing(t, s, "save b sparse", "no none")
}

// P25.1: the first byte, the last one, and none.
func TestSpoil(t *testing.T) {
	s := after(t, "put a "+five, "solve a", "save a sparse", "put b "+five, "solve b")
	b := fileOf(t, five, true)
	last := len(b) - 1
	for _, at := range []int{0, 1, last - 1, last} {
		for _, n := range []int{0, 1, 127, 128, 254, 255} {
			b[at] = byte(n)
			want(t, s, fmt.Sprint("spoil a ", at, " ", n), "ok")
			if !bytes.Equal(s.slots[0].file, b) {
				t.Error(at, n, s.slots[0].file)
			}
		}
	}
	for _, at := range []int{last + 1, last + 2, 1000000, math.MaxInt, -1, -last - 1, math.MinInt} {
		wantNothing(t, s, fmt.Sprint("spoil a ", at, " 0"), "no range")
		wantNothing(t, s, fmt.Sprint("spoil b ", at, " 0"), "no none")
		wantNothing(t, s, fmt.Sprint("spoil c ", at, " 0"), "no none")
	}
	// Module and Table are as they were.
	want(t, s, "run a 10", "done 5 out 5")
	want(t, s, "save a sparse", bytesOf(fileOf(t, five, true)))
	want(t, s, "load a a", "insns 2 edges 0")
}

// P25.1: what is loaded is what reload.Load takes, whole or sparse, with a file of its own.
func TestLoad(t *testing.T) {
	s := after(t, "put a "+count, "solve a", "save a whole", "put other "+five)
	want(t, s, "load b a", "insns 6 edges 2")
	want(t, s, "load other a", "insns 6 edges 2")
	want(t, s, "show other", count)
	want(t, s, "save a sparse", bytesOf(fileOf(t, count, true)))
	want(t, s, "load c a", "insns 6 edges 1")
	want(t, s, "load a a", "insns 6 edges 1")
	want(t, s, "slots", "slots a b c other")
	facts := s.Do("facts a")
	for _, name := range []string{"b", "c", "other"} {
		want(t, s, "facts "+name, facts)
		want(t, s, "run "+name+" 100 1 0", "done 7 out 6 7")
	}
	want(t, s, "spoil a 0 66", "ok")
	wantNothing(t, s, "load d a", "no 0 form")
	wantNothing(t, s, "load a a", "no 0 form")
	want(t, s, "load d c", "insns 6 edges 1")
	want(t, s, "spoil d 1 0", "ok")
	wantNothing(t, s, "load e d", "no 0 form")
	want(t, s, "load e c", "insns 6 edges 1")
	wantNothing(t, s, "load e none", "no none")
	want(t, s, "put none "+none, "ok")
	wantNothing(t, s, "load e none", "no none")
}

// P25.1, P5: each byte of a file made each other one: what is replied is what reload.Load says, and what is taken follows.
func TestLoadSpoilt(t *testing.T) {
	const lines = "cells 3;func main 0 2;block;load 1 0;branch 1 1 1;block;store 1 0;return 1"
	taken := 0
	for _, how := range []string{"whole", "sparse"} {
		b := fileOf(t, lines, how == "sparse")
		s := after(t, "put a "+lines, "solve a", "save a "+how)
		for at := range b {
			for n := range 256 {
				was := b[at]
				b[at] = byte(n)
				want(t, s, fmt.Sprint("spoil a ", at, " ", n), "ok")
				m, x, counts, e := reload.Load(b)
				if e != nil {
					want(t, s, "load b a", "no "+fault.Text(e))
				} else {
					taken++
					want(t, s, "load b a", fmt.Sprint("insns ", counts.Insns, " edges ", counts.Edges))
					if y := s.slots[1]; !ir.Equal(y.module, m) || !table.Equal(*y.told, x) || !bytes.Equal(y.file, b) {
						t.Error(at, n, "something else is there")
					}
				}
				b[at] = was
			}
			want(t, s, fmt.Sprint("spoil a ", at, " ", b[at]), "ok")
		}
	}
	if taken < 600 {
		t.Error("too few", taken)
	}
}

// P25.1: two files, and their errors, those of the first one ahead of those of the second one.
func TestMerge(t *testing.T) {
	begin := []string{"put a " + caller, "solve a", "save a whole", "put b " + callee, "solve b g", "save b sparse"}
	file, e := merge.Merge(fileOf(t, caller, false), fileOf(t, callee, true, 0))
	if e != nil {
		t.Fatal(fault.Text(e))
	}
	m, x, _, e := reload.Load(file)
	if e != nil {
		t.Fatal(fault.Text(e))
	}
	for _, name := range []string{"a", "b", "c"} {
		s := after(t, begin...)
		want(t, s, "merge "+name+" a b", bytesOf(file))
		y, e := s.slot(name)
		if e != nil || !bytes.Equal(y.file, file) || !ir.Equal(y.module, m) || !table.Equal(*y.told, x) {
			t.Error(name, fault.Text(e), y)
		}
		want(t, s, "load "+name+" "+name, "insns 9 edges 0")
		want(t, s, "run "+name+" 20 7", "done 12 out 12")
	}
	s := after(t, begin...)
	wantNothing(t, s, "merge c a a", "no 0 twice")
	wantNothing(t, s, "merge a b b", "no 0 twice")
	for _, line := range []string{"merge c a no1", "merge c no1 b", "merge c no1 no2", "merge a no1 no1"} {
		wantNothing(t, s, line, "no none")
	}
	want(t, s, "put d "+other, "ok")
	for _, line := range []string{"merge c a d", "merge c d a", "merge c d d"} {
		wantNothing(t, s, line, "no none")
	}
	after := func(lines ...string) {
		for _, line := range lines {
			if reply := s.Do(line); reply == "what" || strings.HasPrefix(reply, "no") {
				t.Error(line, reply)
			}
		}
	}
	after("solve d g", "save d whole")
	wantNothing(t, s, "merge c a d", "no 0.1 clash")
	wantNothing(t, s, "merge c d a", "no 1.1 clash")
	after("solve b small", "save b whole")
	wantNothing(t, s, "merge c a b", "no 0.1 implied")
	wantNothing(t, s, "merge c b a", "no 1.1 implied")
	after("spoil b 3 2")
	wantNothing(t, s, "merge c a b", "no 1.3 tag")
	wantNothing(t, s, "merge c b a", "no 0.3 tag")
	after("spoil a 0 0")
	wantNothing(t, s, "merge c a b", "no 0.0 form")
	wantNothing(t, s, "merge c b a", "no 0.3 tag")
}

// P25.1: how runs end, and what goes out.
func TestRun(t *testing.T) {
	s := after(t, "put five "+five, "put count "+count, "put zero "+zero, "put deep "+deep, "put around "+around, "put caller "+caller, "put callee "+callee, "put none "+none, "put taker "+taker, "put asked "+asked)
	for _, c := range []struct{ line, reply string }{
		{"run five 0", "running out"},
		{"run five 1", "running out"},
		{"run five 2", "running out 5"},
		{"run five 3", "done 5 out 5"},
		{"run five 1000", "done 5 out 5"},
		{"run five 10 1 2 3", "done 5 out 5"},
		{"run count 0", "running out"},
		{"run count 0 1 0", "running out"},
		{"run count 5", "running out 6"},
		{"run count 6", "trapped out 6"},
		{"run count 6 0", "running out 6"},
		{"run count 1000", "trapped out 6"},
		{"run count 1000 -1", "trapped out 6 7"},
		{"run count 1000 -9223372036854775808 9223372036854775807 0", "done 8 out 6 7 8"},
		{"run count 1000 1 0 5", "done 7 out 6 7"},
		{"run count 12 1 0", "running out 6 7"},
		{"run zero 1", "running out 0"},
		{"run zero 2", "trapped out 0"},
		{"run zero 1000", "trapped out 0"},
		{"run deep 63", "running out"},
		{"run deep 64", "trapped out"},
		{"run around 9", "running out 0 0 0 0 0"},
		{"run around 1000", "running out" + strings.Repeat(" 0", 500)},
		{"run none 10", "no none"},
		{"run callee 10", "no none"},
		// A main that takes something is none with which a module begins; neither is an import, though there are imports.
		{"run taker 10", "no none"},
		{"run asked 10", "no none"},
		{"run nobody 10", "no none"},
		{"run caller 10", "no open"},
		{"run caller 0", "no open"},
	} {
		wantNothing(t, s, c.line, c.reply)
	}
}

// P25.1, P9: texts as they are, in one line.
func TestShowAndFacts(t *testing.T) {
	s := New()
	for _, lines := range []string{none, five, count, caller, callee, lib, deep} {
		want(t, s, "put a "+lines, "ok")
		wantNothing(t, s, "show a", lines)
		wantNothing(t, s, "facts a", "no none")
		m := moduleOf(t, lines)
		after := strings.TrimSuffix(text.Facts(m, solvedOf(t, m)), "\n")
		s.Do("solve a")
		wantNothing(t, s, "facts a", strings.ReplaceAll(after, "\n", ";"))
		wantNothing(t, s, "show a", lines)
	}
	wantNothing(t, s, "show b", "no none")
	wantNothing(t, s, "facts b", "no none")
}

// P25.1: 16 slots, and no more; each of them may be laid again.
func TestSlots(t *testing.T) {
	s := New()
	want(t, s, "slots", "slots")
	for _, name := range []string{"b", "a", "z", "a0", "aa", "a9", "b0", "ba", "c", "zz", "y", "z0", "m", "n", "l"} {
		want(t, s, "put "+name+" "+five, "ok")
	}
	want(t, s, "slots", "slots a a0 a9 aa b b0 ba c l m n y z z0 zz")
	want(t, s, "solve a", "steps 2")
	want(t, s, "save a whole", bytesOf(fileOf(t, five, false)))
	want(t, s, "put q "+lib, "ok")
	all := "slots a a0 a9 aa b b0 ba c l m n q y z z0 zz"
	want(t, s, "slots", all)
	want(t, s, "solve q lib", "steps 6")
	want(t, s, "save q whole", bytesOf(fileOf(t, lib, false, 0)))
	for _, line := range []string{"put x " + five, "load x a", "merge x a q"} {
		wantNothing(t, s, line, "no size")
	}
	want(t, s, "load z a", "insns 2 edges 0")
	want(t, s, "put zz "+none, "ok")
	if reply := s.Do("merge m a q"); !strings.HasPrefix(reply, "bytes ") {
		t.Error(reply)
	}
	want(t, s, "slots", all)
	want(t, s, "drop aa", "ok")
	wantNothing(t, s, "drop aa", "no none")
	wantNothing(t, s, "show aa", "no none")
	want(t, s, "load x a", "insns 2 edges 0")
	want(t, s, "slots", "slots a a0 a9 b b0 ba c l m n q x y z z0 zz")
	wantNothing(t, s, "put aa "+five, "no size")
	for _, name := range strings.Fields("a a0 a9 b b0 ba c l m n q x y z z0 zz") {
		want(t, s, "drop "+name, "ok")
	}
	want(t, s, "slots", "slots")
	want(t, s, "put aa "+five, "ok")
	want(t, s, "run aa 9", "done 5 out 5")
}

// P25.1: of several errors the first one in the chapter's order is told, and nothing is otherwise then.
func TestOrderOfErrors(t *testing.T) {
	s := full(t)
	for _, c := range []struct{ line, reply string }{
		{"put new " + none, "no size"},
		{"put new cell", "no form"},
		{"put New cell", "what"},
		{"solve new nobody", "no none"},
		{"solve a nobody", "no symbol"},
		{"save new whole", "no none"},
		{"save f whole", "no none"},
		{"save new half", "what"},
		{"spoil new 999999 0", "no none"},
		{"spoil f 999999 0", "no none"},
		{"spoil a 999999 0", "no range"},
		{"spoil a 999999 256", "what"},
		{"spoil new -1 0", "no none"},
		{"load new new", "no none"},
		{"load new f", "no none"},
		{"load f f", "no none"},
		{"load new b", "no 0 form"},
		{"load f b", "no 0 form"},
		{"load new a", "no size"},
		{"load New new", "what"},
		{"load new New", "what"},
		{"merge new new b", "no none"},
		{"merge new b new", "no none"},
		{"merge new f b", "no none"},
		{"merge new b f", "no none"},
		{"merge f f f", "no none"},
		{"merge new b c", "no 0.0 form"},
		{"merge new c b", "no 1.0 form"},
		{"merge new b b", "no 0.0 form"},
		{"merge new c c", "no 0 twice"},
		{"merge new c e", "no 0.1 clash"},
		{"merge new c d", "no size"},
		{"merge new c New", "what"},
		{"run new 1", "no none"},
		{"run f 1", "no none"},
		{"run c 1", "no open"},
		{"run c 1001", "what"},
		{"run new x", "what"},
		{"show new", "no none"},
		{"facts new", "no none"},
		{"facts f", "no none"},
		{"drop new", "no none"},
		{"drop New", "what"},
	} {
		wantNothing(t, s, c.line, c.reply)
	}
	want(t, s, "put f "+five, "ok")
	want(t, s, "load f a", "insns 2 edges 0")
	if reply := s.Do("merge f c d"); !strings.HasPrefix(reply, "bytes ") {
		t.Error(reply)
	}
	want(t, s, "run f 20 6", "done 11 out 11")
}

// P25.1: no slot is changed with another one.
func TestSlotsAreApart(t *testing.T) {
	s := after(t, "put a "+lib, "solve a lib", "save a whole", "load b a", "load c b")
	facts := s.Do("facts a")
	for _, line := range []string{"solve a", "save a sparse", "spoil a 0 0", "put a " + five, "drop a"} {
		before := dump(&Shell{s.slots[1:]})
		s.Do(line)
		if rest := (&Shell{s.slots[len(s.slots)-2:]}); dump(rest) != before {
			t.Error(line, "changed other slots")
		}
	}
	want(t, s, "facts b", facts)
	want(t, s, "spoil b 2 0", "ok")
	want(t, s, "load a c", "insns 1 edges 3")
	wantNothing(t, s, "load a b", "no 0 form")
}

// P25.3, P25.1: two Shells side by side reply as each does by itself; a list that is handed in isn't changed or kept, and no two lists of replies are one.
func TestShellsAreApart(t *testing.T) {
	first := []string{"put a " + five, "solve a", "save a whole", "load b a", "slots", "drop a", "slots", "put a " + count, "run a 50 1 0", "show b"}
	second := []string{"slots", "put a " + lib, "slots", "save a whole", "solve a lib", "save a sparse", "facts a", "load c a", "drop b", "slots"}
	one, two := Lines(first), Lines(second)
	s, u := New(), New()
	for i := range first {
		want(t, s, first[i], one[i])
		want(t, u, second[i], two[i])
	}
	list := append(slices.Clone(first), "slots")[:len(first)]
	again := Lines(list)
	if !slices.Equal(list, first) || list[:len(first)+1][len(first)] != "slots" {
		t.Error("the list was changed")
	}
	clear(list)
	again[0] = "spoilt"
	if third := Lines(first); !slices.Equal(third, one) || !slices.Equal(again[1:], one[1:]) {
		t.Error("a list is kept")
	}
}

// P1, P25.1: whatever the lines are, there is an end, however long they are.
func TestAnyLineEnds(t *testing.T) {
	s := full(t)
	const n = 1 << 20
	long := strings.Repeat("a", n)
	for _, c := range []struct{ line, reply string }{
		{long, "what"}, {strings.Repeat(" ", n), "what"}, {strings.Repeat("a ", n), "what"}, {strings.Repeat(";", n), "what"},
		{"put " + long + " cells", "what"}, {"put a " + long, "no form"}, {"put a " + strings.Repeat(";", n), "no form"}, {"put a " + strings.Repeat("cells;", n/8), "no form"}, {"put a" + strings.Repeat(" 0", n), "no form"},
		{"solve a " + long, "no symbol"}, {"solve a" + strings.Repeat(" main", n/8), "steps 2"}, {"solve a" + strings.Repeat(" main", n/8) + " x", "no symbol"},
		{"run a 10" + strings.Repeat(" 7", n/8), "done 5 out 5"}, {"run a 10" + strings.Repeat(" 7", n/8) + " x", "what"}, {"run a 1" + strings.Repeat("0", n), "what"}, {"save a " + long, "what"}, {"spoil a " + strings.Repeat("9", n) + " 0", "what"},
		{"show a" + strings.Repeat(" a", n), "what"}, {"slots" + strings.Repeat(" a", n), "what"},
	} {
		want(t, s, c.line, c.reply)
	}
	if _, e := annot.Write(s.slots[0].module, *s.slots[0].told, false); e != nil {
		t.Error(fault.Text(e))
	}
}
