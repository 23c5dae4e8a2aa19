package text

import (
	"slices"
	"strconv"
	"strings"

	"averment/api"
	"averment/ir"
)

// No module's text has more lines than these, and no line of one more words: so a text that is far too long takes no memory.
const (
	maxLines = 1 + api.MaxFuncs*(1+api.MaxBlocks*(2+api.MaxInsns))
	maxWords = 1 + api.MaxCells
)

// row is the words of a line.
type row []string

// word is the word at place i: an empty one, if there is none.
func (r row) word(i int) string {
	if i < len(r) {
		return r[i]
	}
	return ""
}

// number is that of the word at place i. Of what is no number it is one that is written otherwise, which counts as an error once the texts are held against each other.
func (r row) number(i int) int64 {
	n, _ := strconv.ParseInt(r.word(i), 10, 64)
	return n
}

// reader makes a module of a text line by line; names are those of its functions, then of its imports.
type reader struct {
	m     ir.Module
	names []string
}

// read tells the module whose text s is, if it is one's; else any.
func read(s string) ir.Module {
	var rows []row
	for _, line := range strings.Split(s, lineFeed) {
		rows = append(rows, strings.SplitN(line, blank, maxWords+1))
	}
	x := &reader{names: names(rows)}
	for _, r := range rows {
		x.line(r)
	}
	return x.m
}

// names are gathered ahead of all else, since a call may be of a function behind it.
func names(rows []row) []string {
	var funcs, imports []string
	for _, r := range rows {
		switch r.word(0) {
		case "func":
			funcs = append(funcs, r.word(1))
		case "import":
			imports = append(imports, r.word(1))
		}
	}
	return slices.Concat(funcs, imports)
}

func (x *reader) line(r row) {
	m := &x.m
	switch r.word(0) {
	case "cells":
		for i := 1; i < len(r); i++ {
			m.Cells = append(m.Cells, r.number(i))
		}
	case "func":
		// A name that is a piece of the text would keep all of it.
		m.Funcs = append(m.Funcs, ir.Func{Name: strings.Clone(r.word(1)), Arity: int(r.number(2)), Regs: int(r.number(3))})
	case "import":
		m.Imports = append(m.Imports, ir.Import{Name: strings.Clone(r.word(1)), Arity: int(r.number(2))})
	case "block":
		if f := last(m.Funcs); f != nil {
			f.Blocks = append(f.Blocks, ir.Block{})
		}
	default:
		if f := last(m.Funcs); f != nil {
			x.inBlock(last(f.Blocks), r)
		}
	}
}

// last is the last one of a list: nil, if there is none.
func last[T any](list []T) *T {
	if len(list) == 0 {
		return nil
	}
	return &list[len(list)-1]
}

// inBlock reads a line of a block, if there is one by now: an instruction, or its End.
func (x *reader) inBlock(b *ir.Block, r row) {
	if b == nil {
		return
	}
	for i, word := range insnWords {
		if r.word(0) == word {
			b.Insns = append(b.Insns, x.insn(ir.Const+i, r))
		}
	}
	for i, word := range endWords {
		if r.word(0) == word {
			b.End = endOf(ir.Jump+i, r)
		}
	}
}

func (x *reader) insn(op int, r row) ir.Insn {
	made := ir.Insn{Op: op}
	at := 1
	for _, field := range fields(&made) {
		*field = int(r.number(at))
		at++
	}
	switch op {
	case ir.Const:
		made.N = r.number(at)
	case ir.Call:
		made.B = slices.Index(x.names, r.word(at))
		for at++; at < len(r); at++ {
			made.Args = append(made.Args, int(r.number(at)))
		}
	}
	return made
}

func endOf(op int, r row) ir.End {
	e := ir.End{Op: op}
	for i, field := range endFields(&e) {
		*field = int(r.number(1 + i))
	}
	return e
}
