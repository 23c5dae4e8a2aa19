package text_test

import (
	"fmt"
	"math"
	"regexp"
	"strconv"
	"strings"

	"averment/fact"
	"averment/flow"
	"averment/ir"
	"averment/table"
)

// lineOf is the chapter's table: how the line of each instruction stands, by its Op: %d the fields behind, but call's.
var lineOf = map[int]string{
	1: "const %d %d", 2: "move %d %d", 3: "neg %d %d", 4: "add %d %d %d", 5: "sub %d %d %d", 6: "mul %d %d %d",
	7: "div %d %d %d", 8: "rem %d %d %d", 9: "and %d %d %d", 10: "xor %d %d %d", 11: "less %d %d %d", 12: "same %d %d %d",
	13: "load %d %d", 14: "store %d %d", 15: "input %d", 16: "output %d",
}

// insnLine is an instruction's line, by the chapter's words.
func insnLine(m ir.Module, x ir.Insn) string {
	switch x.Op {
	case 1:
		return fmt.Sprintf(lineOf[x.Op], x.D, x.N)
	case 2, 3:
		return fmt.Sprintf(lineOf[x.Op], x.D, x.A)
	case 13:
		return fmt.Sprintf(lineOf[x.Op], x.D, x.B)
	case 14:
		return fmt.Sprintf(lineOf[x.Op], x.A, x.B)
	case 15:
		return fmt.Sprintf(lineOf[x.Op], x.D)
	case 16:
		return fmt.Sprintf(lineOf[x.Op], x.A)
	case 17:
		s := fmt.Sprint("call ", x.D, " ", ir.Name(m, x.B))
		for _, r := range x.Args {
			s += fmt.Sprint(" ", r)
		}
		return s
	}
	return fmt.Sprintf(lineOf[x.Op], x.D, x.A, x.B)
}

func endLine(e ir.End) string {
	switch e.Op {
	case 1:
		return fmt.Sprint("jump ", e.To)
	case 2:
		return fmt.Sprintf("branch %d %d %d", e.A, e.To, e.Else)
	}
	return fmt.Sprint("return ", e.A)
}

// printed is a well-formed module's text, by the chapter's words.
func printed(m ir.Module) string {
	s := "cells"
	for _, n := range m.Cells {
		s += fmt.Sprint(" ", n)
	}
	s += "\n"
	for _, f := range m.Funcs {
		s += fmt.Sprintf("func %s %d %d\n", f.Name, f.Arity, f.Regs)
		for _, b := range f.Blocks {
			s += "block\n"
			for _, x := range b.Insns {
				s += insnLine(m, x) + "\n"
			}
			s += endLine(b.End) + "\n"
		}
	}
	for _, im := range m.Imports {
		s += fmt.Sprintf("import %s %d\n", im.Name, im.Arity)
	}
	return s
}

// Lines, each in the one form that it has.
var (
	number   = `(0|-?[1-9][0-9]*)`
	aCells   = regexp.MustCompile(`\Acells(?: ` + number + `)*\z`)
	aFunc    = regexp.MustCompile(`\Afunc ([a-z0-9]+) ` + number + ` ` + number + `\z`)
	anImport = regexp.MustCompile(`\Aimport ([a-z0-9]+) ` + number + `\z`)
	aCall    = regexp.MustCompile(`\Acall ` + number + ` ([a-z0-9]+)((?: ` + number + `)*)\z`)
	anInsn   = regexp.MustCompile(`\A(?:(?:const|move|neg|load|store) ` + number + ` ` + number + `|(?:input|output) ` + number + `|(?:add|sub|mul|div|rem|and|xor|less|same) ` + number + ` ` + number + ` ` + number + `)\z`)
	anEnd    = regexp.MustCompile(`\A(?:(?:jump|return) ` + number + `|branch ` + number + ` ` + number + ` ` + number + `)\z`)
)

// modelReader takes a text line by line; what is no number of 64 bits, or no line that may stand there, makes it bad.
type modelReader struct {
	lines []string
	bad   bool
}

// next takes the next line, if it is one of that form.
func (r *modelReader) next(form *regexp.Regexp) ([]string, bool) {
	if len(r.lines) == 0 || !form.MatchString(r.lines[0]) {
		return nil, false
	}
	words := strings.Fields(r.lines[0])
	r.lines = r.lines[1:]
	return words, true
}

func (r *modelReader) number(word string) int64 {
	n, e := strconv.ParseInt(word, 10, 64)
	r.bad = r.bad || e != nil
	return n
}

func (r *modelReader) numbers(words []string) []int {
	var all []int
	for _, w := range words {
		all = append(all, int(r.number(w)))
	}
	return all
}

// parsed is the well-formed module whose text s is, by the chapter's words.
func parsed(s string) (ir.Module, bool) {
	if !strings.HasSuffix(s, "\n") {
		return ir.Module{}, false
	}
	r := &modelReader{lines: strings.Split(strings.TrimSuffix(s, "\n"), "\n")}
	words, ok := r.next(aCells)
	if !ok {
		return ir.Module{}, false
	}
	var m ir.Module
	for _, w := range words[1:] {
		m.Cells = append(m.Cells, r.number(w))
	}
	calls := make(map[[3]int]string)
	for {
		words, ok := r.next(aFunc)
		if !ok {
			break
		}
		f := ir.Func{Name: words[1], Arity: int(r.number(words[2])), Regs: int(r.number(words[3]))}
		f.Blocks = r.blocks(len(m.Funcs), calls)
		m.Funcs = append(m.Funcs, f)
	}
	for {
		words, ok := r.next(anImport)
		if !ok {
			break
		}
		m.Imports = append(m.Imports, ir.Import{Name: words[1], Arity: int(r.number(words[2]))})
	}
	if r.bad || len(r.lines) > 0 {
		return ir.Module{}, false
	}
	for at, name := range calls {
		m.Funcs[at[0]].Blocks[at[1]].Insns[at[2]].B = ir.Find(m, name)
	}
	return m, ir.Check(m) == nil
}

// blocks takes those of function f; calls are the names that are called, by their places.
func (r *modelReader) blocks(f int, calls map[[3]int]string) []ir.Block {
	var all []ir.Block
	for len(r.lines) > 0 && r.lines[0] == "block" {
		r.lines = r.lines[1:]
		var b ir.Block
		for {
			if words, ok := r.next(anInsn); ok {
				b.Insns = append(b.Insns, r.insn(words))
			} else if words, ok := r.next(aCall); ok {
				calls[[3]int{f, len(all), len(b.Insns)}] = words[2]
				b.Insns = append(b.Insns, ir.Insn{Op: 17, D: int(r.number(words[1])), Args: r.numbers(words[3:])})
			} else {
				break
			}
		}
		words, ok := r.next(anEnd)
		if !ok {
			r.bad = true
			return all
		}
		switch n := r.numbers(words[1:]); words[0] {
		case "jump":
			b.End = ir.End{Op: 1, To: n[0]}
		case "branch":
			b.End = ir.End{Op: 2, A: n[0], To: n[1], Else: n[2]}
		case "return":
			b.End = ir.End{Op: 3, A: n[0]}
		}
		all = append(all, b)
	}
	return all
}

// insn is an instruction that is no call.
func (r *modelReader) insn(words []string) ir.Insn {
	n := r.numbers(words[1:])
	for op, line := range lineOf {
		if strings.Fields(line)[0] != words[0] {
			continue
		}
		switch op {
		case 1:
			return ir.Insn{Op: op, D: n[0], N: int64(n[1])}
		case 2, 3:
			return ir.Insn{Op: op, D: n[0], A: n[1]}
		case 13:
			return ir.Insn{Op: op, D: n[0], B: n[1]}
		case 14:
			return ir.Insn{Op: op, A: n[0], B: n[1]}
		case 15:
			return ir.Insn{Op: op, D: n[0]}
		case 16:
			return ir.Insn{Op: op, A: n[0]}
		}
		return ir.Insn{Op: op, D: n[0], A: n[1], B: n[2]}
	}
	return ir.Insn{}
}

// valueText is a Value's, by the chapter's words.
func valueText(v fact.Value) string {
	if !fact.Right(v) {
		return ""
	}
	signs := []string{1: "N", 2: "Z", 3: "NZ", 4: "P", 5: "NP", 6: "ZP", 7: "NZP"}[v.Sign]
	exact := "any"
	if v.Known.Is {
		exact = fmt.Sprint("=", v.Known.N)
	}
	ends := []string{fmt.Sprint(v.Span.Lo), fmt.Sprint(v.Span.Hi)}
	for i, n := range []int64{v.Span.Lo, v.Span.Hi} {
		if n == math.MinInt64 || n == math.MaxInt64 {
			ends[i] = ""
		}
	}
	return strings.Join([]string{signs, exact, strings.Join(ends, ".."), []string{1: "even", 2: "odd", 3: "both"}[v.Parity]}, " ")
}

func sumText(s flow.Sum) string {
	text := "idle"
	if s.Called {
		text = "called"
		for _, v := range s.Args {
			text += " " + valueText(v)
		}
	}
	if s.Returns {
		return text + " returns " + valueText(s.Result)
	}
	return text + " ends"
}

// factsText is what a Table in normal form tells, by the chapter's words.
func factsText(m ir.Module, t table.Table) string {
	s := ""
	for c, v := range t.Cells {
		s += fmt.Sprintln("cell", c, valueText(v))
	}
	for f, told := range t.Funcs {
		s += fmt.Sprintln("func", m.Funcs[f].Name, sumText(told.Sum))
		for b, block := range told.Blocks {
			s += fmt.Sprint("block ", b, map[bool]string{true: " reached", false: " not"}[block.State.Reached], " live")
			for _, r := range block.Live {
				s += fmt.Sprint(" ", r)
			}
			s += "\n"
			for r, v := range block.State.Vals {
				s += fmt.Sprint("reg ", r, " ", valueText(v))
				for _, site := range block.State.Sites[r] {
					s += fmt.Sprint(" ", site)
				}
				s += "\n"
			}
		}
	}
	for i, sum := range t.Imports {
		s += fmt.Sprintln("import", m.Imports[i].Name, sumText(sum))
	}
	return s
}
