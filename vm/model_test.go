package vm

import (
	"fmt"
	"math/big"
	"math/rand"
	"slices"
	"testing"

	"averment/ir"
)

// model does a module by the document's words, with whole numbers of any size and ir's own counting of sites.
type model struct {
	m              ir.Module
	how            int
	result         int64
	out, in, cells []int64
	frames         []Frame
}

func modelOf(m ir.Module, f int, args, in []int64) *model {
	x := &model{m: m, in: slices.Clone(in), cells: slices.Clone(m.Cells)}
	x.frames = []Frame{x.beginning(f, args)}
	return x
}

// beginning is a frame of which nothing was done.
func (x *model) beginning(f int, args []int64) Frame {
	fr := Frame{Func: f, Regs: make([]int64, x.m.Funcs[f].Regs), Last: make([]int, x.m.Funcs[f].Regs)}
	for r := range fr.Regs {
		if r < len(args) {
			fr.Regs[r] = args[r]
		}
		fr.Last[r] = ir.First(x.m, f) + r
	}
	return fr
}

// round is n modulo 2^64, with a sign.
func round(n *big.Int) int64 {
	size := new(big.Int).Lsh(big.NewInt(1), 64)
	n = new(big.Int).Mod(n, size)
	if n.Bit(63) == 1 {
		n.Sub(n, size)
	}
	return n.Int64()
}

// reckoned is what two numbers come to by the table of layer 4.
func reckoned(op int, a, b int64) (int64, bool) {
	x, y, z := big.NewInt(a), big.NewInt(b), new(big.Int)
	one := map[bool]int64{true: 1}
	switch op {
	case 4:
		z.Add(x, y)
	case 5:
		z.Sub(x, y)
	case 6:
		z.Mul(x, y)
	case 7, 8:
		if b == 0 {
			return 0, false
		}
		rest := new(big.Int)
		z.QuoRem(x, y, rest)
		if op == 8 {
			z = rest
		}
	case 9:
		z.And(x, y)
	case 10:
		z.Xor(x, y)
	case 11:
		z.SetInt64(one[x.Cmp(y) < 0])
	case 12:
		z.SetInt64(one[x.Cmp(y) == 0])
	default:
		return 0, false
	}
	return round(z), true
}

// step does one step, and tells whether something was done.
func (x *model) step() bool {
	if x.how != Running {
		return false
	}
	fr := &x.frames[len(x.frames)-1]
	block := x.m.Funcs[fr.Func].Blocks[fr.Block]
	if fr.Insn < len(block.Insns) {
		return x.insn(fr, block.Insns[fr.Insn])
	}
	switch e := block.End; e.Op {
	case ir.Jump:
		fr.Block, fr.Insn = e.To, 0
	case ir.Branch:
		fr.Insn = 0
		if fr.Regs[e.A] != 0 {
			fr.Block = e.To
		} else {
			fr.Block = e.Else
		}
	case ir.Return:
		n := fr.Regs[e.A]
		x.frames = x.frames[:len(x.frames)-1]
		if len(x.frames) == 0 {
			x.how, x.result = Done, n
			break
		}
		x.set(&x.frames[len(x.frames)-1], n)
	}
	return true
}

// set gives D of the instruction at which the frame stands its number, and goes on.
func (x *model) set(fr *Frame, n int64) {
	d := x.m.Funcs[fr.Func].Blocks[fr.Block].Insns[fr.Insn].D
	fr.Regs[d] = n
	fr.Last[d] = ir.Site(x.m, fr.Func, fr.Block, fr.Insn)
	fr.Insn++
}

func (x *model) trap() bool {
	x.how = Trapped
	return false
}

func (x *model) insn(fr *Frame, i ir.Insn) bool {
	switch i.Op {
	case ir.Const:
		x.set(fr, i.N)
	case ir.Move:
		x.set(fr, fr.Regs[i.A])
	case ir.Neg:
		x.set(fr, round(new(big.Int).Neg(big.NewInt(fr.Regs[i.A]))))
	case ir.Load:
		x.set(fr, x.cells[i.B])
	case ir.Store:
		x.cells[i.B] = fr.Regs[i.A]
		fr.Insn++
	case ir.Input:
		if len(x.in) == 0 {
			return x.trap()
		}
		n := x.in[0]
		x.in = x.in[1:]
		x.set(fr, n)
	case ir.Output:
		x.out = append(x.out, fr.Regs[i.A])
		fr.Insn++
	case ir.Call:
		if len(x.frames) == 64 {
			return x.trap()
		}
		var args []int64
		for _, r := range i.Args {
			args = append(args, fr.Regs[r])
		}
		x.frames = append(x.frames, x.beginning(i.B, args))
	default:
		n, ok := reckoned(i.Op, fr.Regs[i.A], fr.Regs[i.B])
		if !ok {
			return x.trap()
		}
		x.set(fr, n)
	}
	return true
}

// text is all that is to be seen of the model.
func (x *model) text() string {
	return fmt.Sprint(x.how, x.result, x.how == Done, x.out, x.in, x.cells, x.frames)
}

// seen is all that is to be seen of a Machine.
func seen(v *Machine) string {
	n, ok := v.Result()
	return fmt.Sprint(v.How(), n, ok, v.Out(), v.Left(), v.Cells(), v.Frames())
}

// someModule is a closed well-formed module by chance: functions that call one another, loops, cells.
func someModule(t *testing.T, source *rand.Rand) ir.Module {
	t.Helper()
	var m ir.Module
	for range 1 + source.Intn(4) {
		m.Cells = append(m.Cells, int64(source.Intn(9)-4))
	}
	for f := range 1 + source.Intn(4) {
		arity := source.Intn(5)
		m.Funcs = append(m.Funcs, ir.Func{Name: fmt.Sprint("f", f), Arity: arity, Regs: max(1, arity) + source.Intn(4)})
	}
	for f := range m.Funcs {
		n := 1 + source.Intn(5)
		for range n {
			m.Funcs[f].Blocks = append(m.Funcs[f].Blocks, someBlock(source, m, m.Funcs[f], n))
		}
	}
	if e := ir.Check(m); e != nil {
		t.Fatal(e)
	}
	return m
}

// someBlock is a block of a function with so many blocks.
func someBlock(source *rand.Rand, m ir.Module, f ir.Func, blocks int) ir.Block {
	var b ir.Block
	reg := func() int { return source.Intn(f.Regs) }
	for range source.Intn(6) {
		x := ir.Insn{Op: 1 + source.Intn(17)}
		if _, sets := ir.Sets(x); sets {
			x.D = reg()
		}
		switch {
		case x.Op == ir.Const:
			x.N = someNumber(source)
		case x.Op == ir.Load || x.Op == ir.Store:
			x.B = source.Intn(len(m.Cells))
		case x.Op == ir.Call:
			x.B = source.Intn(len(m.Funcs))
			for range m.Funcs[x.B].Arity {
				x.Args = append(x.Args, reg())
			}
		case x.Op >= ir.Add && x.Op <= ir.Same:
			x.B = reg()
		}
		if x.Op >= ir.Move && x.Op <= ir.Same || x.Op == ir.Store || x.Op == ir.Output {
			x.A = reg()
		}
		b.Insns = append(b.Insns, x)
	}
	switch b.End.Op = 1 + source.Intn(3); b.End.Op {
	case ir.Jump:
		b.End.To = source.Intn(blocks)
	case ir.Branch:
		b.End = ir.End{Op: ir.Branch, A: reg(), To: source.Intn(blocks), Else: source.Intn(blocks)}
	default:
		b.End.A = reg()
	}
	return b
}

func someNumber(source *rand.Rand) int64 {
	if source.Intn(3) == 0 {
		return edgeNumbers[source.Intn(len(edgeNumbers))]
	}
	return int64(source.Intn(7) - 3)
}

func someNumbers(source *rand.Rand, n int) []int64 {
	var all []int64
	for range n {
		all = append(all, someNumber(source))
	}
	return all
}

// run is a module, where it is begun, and what it is given.
type run struct {
	m        ir.Module
	f        int
	args, in []int64
}

func someRun(t *testing.T, source *rand.Rand) run {
	t.Helper()
	m := someModule(t, source)
	f := source.Intn(len(m.Funcs))
	return run{m, f, someNumbers(source, m.Funcs[f].Arity), someNumbers(source, source.Intn(8))}
}

func (r run) start(t *testing.T) *Machine {
	t.Helper()
	v, e := Start(r.m, r.f, r.args, r.in)
	if e != nil {
		t.Fatal(e)
	}
	return v
}
