package text

import (
	"strconv"
	"strings"

	"averment/ir"
	"averment/table"
)

// What stands between words, and behind each line.
const (
	blank    = " "
	lineFeed = "\n"
)

// page is a text that grows line by line.
type page struct{ strings.Builder }

// line lays a line of these words.
func (p *page) line(words ...string) {
	p.WriteString(strings.Join(words, blank))
	p.WriteString(lineFeed)
}

// module lays all lines of a well-formed module.
func (p *page) module(m ir.Module) {
	words := []string{"cells"}
	for _, n := range m.Cells {
		words = append(words, strconv.FormatInt(n, 10))
	}
	p.line(words...)
	for _, f := range m.Funcs {
		p.line("func", f.Name, strconv.Itoa(f.Arity), strconv.Itoa(f.Regs))
		for _, b := range f.Blocks {
			p.block(m, b)
		}
	}
	for _, im := range m.Imports {
		p.line("import", im.Name, strconv.Itoa(im.Arity))
	}
}

func (p *page) block(m ir.Module, b ir.Block) {
	p.line("block")
	for _, x := range b.Insns {
		p.insn(m, x)
	}
	words := []string{endWords[b.End.Op-ir.Jump]}
	for _, field := range endFields(&b.End) {
		words = append(words, strconv.Itoa(*field))
	}
	p.line(words...)
}

func (p *page) insn(m ir.Module, x ir.Insn) {
	words := []string{insnWords[x.Op-ir.Const]}
	for _, field := range fields(&x) {
		words = append(words, strconv.Itoa(*field))
	}
	switch x.Op {
	case ir.Const:
		words = append(words, strconv.FormatInt(x.N, 10))
	case ir.Call:
		words = append(words, ir.Name(m, x.B))
		words = append(words, numbers(x.Args)...)
	}
	p.line(words...)
}

// told lays what is told ahead of block b.
func (p *page) told(b int, x table.Block) {
	reached := "not"
	if x.State.Reached {
		reached = "reached"
	}
	p.line(append([]string{"block", strconv.Itoa(b), reached, "live"}, numbers(x.Live)...)...)
	// Where nobody comes there are no Values.
	for r, v := range x.State.Vals {
		p.line(append([]string{"reg", strconv.Itoa(r), Value(v)}, numbers(x.State.Sites[r])...)...)
	}
}

// numbers are the words of these.
func numbers(list []int) []string {
	var words []string
	for _, n := range list {
		words = append(words, strconv.Itoa(n))
	}
	return words
}
