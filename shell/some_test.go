package shell

import (
	"fmt"
	"strings"
	"testing"

	"averment/annot"
	"averment/fault"
	"averment/ir"
	"averment/solve"
	"averment/table"
	"averment/text"
)

// Modules as they stand in a line.
const (
	none   = "cells"
	five   = "cells;func main 0 1;block;const 0 5;output 0;return 0"
	count  = "cells 5;func main 0 2;block;load 0 0;const 1 1;add 0 0 1;store 0 0;output 0;input 1;branch 1 0 1;block;return 0"
	zero   = "cells;func main 0 2;block;output 0;div 0 1 1;output 0;return 0"
	deep   = "cells;func main 0 1;block;call 0 main;return 0"
	around = "cells;func main 0 1;block;output 0;jump 0"
	caller = "cells 7;func main 0 2;block;input 0;const 1 3;and 0 0 1;call 1 g 0;output 1;return 1;import g 1"
	callee = "cells 9;func g 1 2;block;load 1 0;add 0 0 1;return 0;func small 0 1;block;const 0 2;call 0 g 0;return 0"
	other  = "cells;func g 0 1;block;return 0"
	lib    = "cells;func lib 1 2;block;branch 0 2 1;block;const 0 -3;jump 2;block;return 0"
	taker  = "cells;func main 1 1;block;return 0"
	asked  = "cells;func f 0 1;block;return 0;import main 0"
)

// moduleOf is the module of a text as it stands in a line.
func moduleOf(t *testing.T, lines string) ir.Module {
	t.Helper()
	m, e := text.Parse(strings.ReplaceAll(lines, ";", "\n") + "\n")
	if e != nil {
		t.Fatal(lines, fault.Text(e))
	}
	return m
}

// solvedOf is the Table that is found of a module, with these roots.
func solvedOf(t *testing.T, m ir.Module, roots ...int) table.Table {
	t.Helper()
	x, _, e := solve.Solve(m, roots, solve.Bound(m))
	if e != nil {
		t.Fatal(fault.Text(e))
	}
	return x
}

// fileOf is the file of a module and what is found of it.
func fileOf(t *testing.T, lines string, sparse bool, roots ...int) []byte {
	t.Helper()
	m := moduleOf(t, lines)
	x := solvedOf(t, m, roots...)
	if sparse {
		x = table.Sparse(m, x)
	}
	b, e := annot.Write(m, x, sparse)
	if e != nil {
		t.Fatal(fault.Text(e))
	}
	return b
}

// bytesOf is the reply that tells how many bytes there are.
func bytesOf(b []byte) string { return fmt.Sprint("bytes ", len(b)) }

// want: the line is replied to so.
func want(t *testing.T, s *Shell, line, reply string) {
	t.Helper()
	if got := s.Do(line); got != reply {
		t.Errorf("%.200q: got %q, want %q", line, got, reply)
	}
}

// wantNothing: the line is replied to so, and nothing is otherwise than ahead of it.
func wantNothing(t *testing.T, s *Shell, line, reply string) {
	t.Helper()
	before := dump(s)
	want(t, s, line, reply)
	if after := dump(s); after != before {
		t.Errorf("%.200q: changed what there is:\n%s\n%s", line, before, after)
	}
}

// after is a Shell behind these lines, all of which are taken.
func after(t *testing.T, lines ...string) *Shell {
	t.Helper()
	s := New()
	for _, line := range lines {
		if reply := s.Do(line); reply == "what" || strings.HasPrefix(reply, "no") {
			t.Fatalf("%q: %s", line, reply)
		}
	}
	return s
}

// dump is all that a Shell has.
func dump(s *Shell) string {
	all := ""
	for _, x := range s.slots {
		all += fmt.Sprintf("%s: %v", x.name, x.module)
		if x.told != nil {
			all += fmt.Sprintf(" told %v", *x.told)
		}
		if x.file != nil {
			all += fmt.Sprintf(" file %v", x.file)
		}
		all += "\n"
	}
	return all
}

// full has 16 slots: a has five and its file, b a file that isn't taken, c caller and d callee with files, e other with a file; f to p have nothing but a module.
func full(t *testing.T) *Shell {
	t.Helper()
	s := after(t,
		"put a "+five, "solve a", "save a whole", "put b "+five, "solve b", "save b whole", "spoil b 0 66",
		"put c "+caller, "solve c", "save c whole", "put d "+callee, "solve d g", "save d sparse", "put e "+other, "solve e g", "save e whole")
	for c := 'f'; c <= 'p'; c++ {
		want(t, s, "put "+string(c)+" "+none, "ok")
	}
	want(t, s, "slots", "slots a b c d e f g h i j k l m n o p")
	return s
}
