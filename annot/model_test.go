package annot

import (
	"fmt"
	"math"
	"slices"

	"averment/fact"
	"averment/flow"
	"averment/ir"
	"averment/table"
)

// Kinds of parts: how each of them may be wrong.
const (
	begins    = "begins"
	how       = "how"
	module    = "module"
	valueByte = "Value's byte"
	number    = "number"
	lo        = "Lo"
	hi        = "Hi"
	sumByte   = "Sum's byte"
	stateByte = "State's byte"
	set       = "set"
)

// part is what is taken at once. back: how many parts ahead the Value begins that it is of; below: of a set.
type part struct {
	kind  string
	bytes []byte
	back  int
	below int
}

// piece is parts, one behind the other: alone, or a section of them.
type piece struct {
	section bool
	parts   []part
}

// pieces are those of a file, laid word for word as the document says it.
func pieces(m ir.Module, x table.Table, cuts [][]int) []piece {
	all := []piece{
		{parts: []part{{kind: begins, bytes: []byte{0x41, 0x46, 0x01}}, {kind: how, bytes: []byte{0}}}},
		{section: true, parts: []part{{kind: module, bytes: moduleBytes(m)}}},
	}
	if cuts != nil {
		all[0].parts[1].bytes[0] = 1
	}
	all = append(all, piece{parts: valueParts(x.Cells...)})
	for f, told := range x.Funcs {
		parts := sumParts(told.Sum)
		for b, block := range told.Blocks {
			if cuts == nil || slices.Contains(cuts[f], b) {
				parts = append(parts, blockParts(block, m.Funcs[f].Regs, sitesOf(m))...)
			}
		}
		all = append(all, piece{section: true, parts: parts})
	}
	for _, s := range x.Imports {
		all = append(all, piece{parts: sumParts(s)})
	}
	return all
}

// sitesOf counts a site for each register, and for each instruction but Store and Output.
func sitesOf(m ir.Module) int {
	n := 0
	for _, f := range m.Funcs {
		n += f.Regs
		for _, b := range f.Blocks {
			for _, x := range b.Insns {
				if x.Op != ir.Store && x.Op != ir.Output {
					n++
				}
			}
		}
	}
	return n
}

func valueParts(vals ...fact.Value) []part {
	var all []part
	for _, v := range vals {
		first := part{kind: valueByte, bytes: []byte{byte(v.Sign + 16*v.Parity)}}
		var numbers []part
		add := func(bit byte, kind string, n int64) {
			first.bytes[0] += bit
			numbers = append(numbers, part{kind: kind, bytes: withSign(n), back: len(numbers) + 1})
		}
		if v.Known.Is {
			add(8, number, v.Known.N)
		}
		if v.Span.Lo > math.MinInt64 {
			add(64, lo, v.Span.Lo)
		}
		if v.Span.Hi < math.MaxInt64 {
			add(128, hi, v.Span.Hi)
		}
		all = append(append(all, first), numbers...)
	}
	return all
}

func sumParts(s flow.Sum) []part {
	all := []part{{kind: sumByte, bytes: []byte{0}}}
	if s.Called {
		all[0].bytes[0]++
		all = append(all, valueParts(s.Args...)...)
	}
	if s.Returns {
		all[0].bytes[0] += 2
		all = append(all, valueParts(s.Result)...)
	}
	return all
}

func blockParts(b table.Block, regs, sites int) []part {
	all := []part{{kind: stateByte, bytes: []byte{0}}}
	if b.State.Reached {
		all[0].bytes[0] = 1
		all = append(all, valueParts(b.State.Vals...)...)
		for _, s := range b.State.Sites {
			all = append(all, setPart(sites, s))
		}
	}
	return append(all, setPart(regs, b.Live))
}

// setPart lays a set below n in each way, and takes the shortest.
func setPart(n int, s []int) part {
	plainly := append([]byte{0}, make([]byte, (n+7)/8)...)
	for _, x := range s {
		plainly[1+x/8] |= 1 << (x % 8)
	}
	gaps := append([]byte{1}, plain(uint64(len(s)))...)
	var ends [][2]int
	for i, x := range s {
		if i == 0 {
			gaps = append(gaps, plain(uint64(x))...)
		} else {
			gaps = append(gaps, plain(uint64(x-s[i-1]-1))...)
		}
		if len(ends) > 0 && ends[len(ends)-1][1] == x-1 {
			ends[len(ends)-1][1] = x
		} else {
			ends = append(ends, [2]int{x, x})
		}
	}
	runs := append([]byte{2}, plain(uint64(len(ends)))...)
	for i, e := range ends {
		begin := e[0]
		if i > 0 {
			begin -= ends[i-1][1] + 2
		}
		runs = append(append(runs, plain(uint64(begin))...), plain(uint64(e[1]-e[0]))...)
	}
	best := plainly
	for _, way := range [][]byte{gaps, runs} {
		if len(way) < len(best) {
			best = way
		}
	}
	return part{kind: set, bytes: best, below: n}
}

// moduleBytes are those of layer 5, by hand.
func moduleBytes(m ir.Module) []byte {
	b := []byte{0x41, 0x56, 0x01, byte(len(m.Cells))}
	for _, c := range m.Cells {
		b = append(b, withSign(c)...)
	}
	add := func(numbers ...int) {
		for _, n := range numbers {
			b = append(b, byte(n))
		}
	}
	name := func(s string) { b = append(append(b, byte(len(s))), s...) }
	add(len(m.Funcs))
	for _, f := range m.Funcs {
		name(f.Name)
		add(f.Arity, f.Regs, len(f.Blocks))
		for _, block := range f.Blocks {
			add(len(block.Insns))
			for _, x := range block.Insns {
				add(x.Op)
				switch {
				case x.Op == ir.Const:
					add(x.D)
					b = append(b, withSign(x.N)...)
				case x.Op == ir.Call:
					add(x.D, x.B, len(x.Args))
					add(x.Args...)
				case x.Op <= ir.Neg:
					add(x.D, x.A)
				case x.Op <= ir.Same:
					add(x.D, x.A, x.B)
				case x.Op == ir.Load:
					add(x.D, x.B)
				case x.Op == ir.Store:
					add(x.A, x.B)
				case x.Op == ir.Input:
					add(x.D)
				case x.Op == ir.Output:
					add(x.A)
				}
			}
			add(block.End.Op)
			switch block.End.Op {
			case ir.Jump:
				add(block.End.To)
			case ir.Branch:
				add(block.End.A, block.End.To, block.End.Else)
			case ir.Return:
				add(block.End.A)
			}
		}
	}
	add(len(m.Imports))
	for _, im := range m.Imports {
		name(im.Name)
		add(im.Arity)
	}
	return b
}

// plain lays a number as layer 2 says it.
func plain(n uint64) []byte {
	var b []byte
	for n > 127 {
		b = append(b, byte(n%128)+128)
		n /= 128
	}
	return append(b, byte(n))
}

func withSign(n int64) []byte {
	if n >= 0 {
		return plain(2 * uint64(n))
	}
	return plain(2*uint64(-(n+1)) + 1)
}

// laidOut are the bytes of pieces, and at which place each piece and each part begins.
type laidOut struct {
	bytes []byte
	piece []int
	part  [][]int
}

func layOut(all []piece) laidOut {
	out := laidOut{bytes: []byte{}}
	for _, p := range all {
		var content []byte
		var places []int
		for _, x := range p.parts {
			places = append(places, len(content))
			content = append(content, x.bytes...)
		}
		out.piece = append(out.piece, len(out.bytes))
		if p.section {
			out.bytes = append(out.bytes, plain(uint64(len(content)))...)
		}
		for i := range places {
			places[i] += len(out.bytes)
		}
		out.part = append(out.part, places)
		out.bytes = append(out.bytes, content...)
	}
	return out
}

// shortAt is what is told of bytes cut short: at the part, or at the section, that isn't whole any more.
func shortAt(all []piece, cut int) string {
	out := layOut(all)
	ends := append(slices.Clone(out.piece[1:]), len(out.bytes))
	for i, p := range all {
		switch {
		case cut >= ends[i]:
		case p.section:
			return fmt.Sprint(out.piece[i], " short")
		default:
			return fmt.Sprint(partAt(p, out.part[i], cut), " short")
		}
	}
	return "ok"
}

// partAt is the place of the part that has byte at.
func partAt(p piece, places []int, at int) int {
	last := 0
	for i := range p.parts {
		if places[i] <= at {
			last = places[i]
		}
	}
	return last
}
