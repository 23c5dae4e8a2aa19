package vm

import (
	"averment/api"
	"averment/ir"
)

// Run does steps, as long as something is done, at most fuel, and tells how many.
func (v *Machine) Run(fuel int) int {
	n := 0
	for n < fuel && v.Step() {
		n++
	}
	return n
}

// Step does one step, if it is Running, and tells whether something was done.
func (v *Machine) Step() bool {
	if v.How() != Running {
		return false
	}
	fr := v.innermost()
	block := &v.code.m.Funcs[fr.fn].Blocks[fr.block]
	if fr.insn == len(block.Insns) {
		v.end(fr, block.End)
		return true
	}
	if !v.insn(fr, &block.Insns[fr.insn]) {
		v.how = Trapped
		return false
	}
	return true
}

// innermost is the frame that goes on. One that is Running has some.
func (v *Machine) innermost() *frame { return &v.frames[len(v.frames)-1] }

// insn does an instruction; false: it can't be done, and nothing was.
func (v *Machine) insn(fr *frame, x *ir.Insn) bool {
	switch x.Op {
	case ir.Call:
		return v.call(fr, x)
	case ir.Store:
		v.cells[x.B] = fr.regs[x.A]
	case ir.Output:
		v.out = append(v.out, fr.regs[x.A])
	default:
		n, ok := v.number(fr, x)
		if !ok {
			return false
		}
		v.set(fr, x.D, n)
	}
	fr.insn++
	return true
}

// set gives a register its number, at the instruction at which the frame stands.
func (v *Machine) set(fr *frame, r int, n int64) {
	fr.regs[r] = n
	fr.last[r] = v.code.sites[fr.fn][fr.block][fr.insn]
}

// number is what D becomes by an instruction that is none of Call; false: there is no such number.
func (v *Machine) number(fr *frame, x *ir.Insn) (int64, bool) {
	switch x.Op {
	case ir.Const:
		return x.N, true
	case ir.Move:
		return fr.regs[x.A], true
	case ir.Neg:
		return -fr.regs[x.A], true
	case ir.Load:
		return v.cells[x.B], true
	case ir.Input:
		return v.take()
	}
	return Arith(x.Op, fr.regs[x.A], fr.regs[x.B])
}

// take is the next number that comes in; false: nothing is left.
func (v *Machine) take() (int64, bool) {
	if len(v.left) == 0 {
		return 0, false
	}
	n := v.left[0]
	v.left = v.left[1:]
	return n, true
}

// call makes a frame for what is called; false: there are as many as may be.
func (v *Machine) call(fr *frame, x *ir.Insn) bool {
	if len(v.frames) >= api.MaxDepth {
		return false
	}
	var args [api.MaxArgs]int64
	for i, r := range x.Args {
		args[i] = fr.regs[r]
	}
	v.enter(x.B, args[:len(x.Args)])
	return true
}

// enter makes a frame at the beginning of f.
func (v *Machine) enter(f int, args []int64) {
	fr := frame{fn: f}
	copy(fr.regs[:], args)
	for r := range v.code.m.Funcs[f].Regs {
		fr.last[r] = v.code.first[f] + r
	}
	v.frames = append(v.frames, fr)
}

// end does the End of the block in which the innermost frame is.
func (v *Machine) end(fr *frame, e ir.End) {
	switch {
	case e.Op == ir.Return:
		v.giveBack(fr.regs[e.A])
		return
	case e.Op == ir.Branch && fr.regs[e.A] == 0:
		fr.block = e.Else
	default:
		fr.block = e.To
	}
	fr.insn = 0
}

// giveBack takes the innermost frame away; what called it, if anything did, has n then.
func (v *Machine) giveBack(n int64) {
	v.frames = v.frames[:len(v.frames)-1]
	if len(v.frames) == 0 {
		v.how, v.result = Done, n
		return
	}
	fr := v.innermost()
	call := v.code.m.Funcs[fr.fn].Blocks[fr.block].Insns[fr.insn]
	v.set(fr, call.D, n)
	fr.insn++
}
