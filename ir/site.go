package ir

// Sites tells how many sites m has.
func Sites(m Module) int {
	n := 0
	for _, f := range m.Funcs {
		n += sitesOf(f)
	}
	return n
}

// First tells the site of register 0 at the beginning of f: -1, if f isn't one of Funcs.
func First(m Module, f int) int {
	if !isFunc(m, f) {
		return -1
	}
	return Sites(Module{Funcs: m.Funcs[:f]})
}

// sitesOf is how many sites a function has.
func sitesOf(f Func) int {
	n := f.Regs
	for _, b := range f.Blocks {
		n += setters(b.Insns)
	}
	return n
}

// setters is how many of the instructions set a register.
func setters(insns []Insn) int {
	n := 0
	for _, x := range insns {
		if _, sets := Sets(x); sets {
			n++
		}
	}
	return n
}

// Site tells the site of an instruction: -1, if there is none, or it sets none.
func Site(m Module, f, b, i int) int {
	if !isFunc(m, f) || !within(b, len(m.Funcs[f].Blocks)) {
		return -1
	}
	blocks := m.Funcs[f].Blocks
	if !within(i, len(blocks[b].Insns)) {
		return -1
	}
	if _, sets := Sets(blocks[b].Insns[i]); !sets {
		return -1
	}
	ahead := Func{Regs: m.Funcs[f].Regs, Blocks: blocks[:b]}
	return First(m, f) + sitesOf(ahead) + setters(blocks[b].Insns[:i])
}

// Where tells the instruction of a site, or its function, -1 and its register; -1, -1, -1, if it is no site.
func Where(m Module, site int) (f, b, i int) {
	if site < 0 {
		return -1, -1, -1
	}
	for f, fn := range m.Funcs {
		if site < fn.Regs {
			return f, -1, site
		}
		site -= fn.Regs
		for b, block := range fn.Blocks {
			n := setters(block.Insns)
			if site < n {
				return f, b, setter(block.Insns, site)
			}
			site -= n
		}
	}
	return -1, -1, -1
}

// setter is the place of that one of the instructions that set a register which has so many of them ahead: -1, if there is none.
func setter(insns []Insn, ahead int) int {
	for i, x := range insns {
		if _, sets := Sets(x); !sets {
			continue
		}
		if ahead == 0 {
			return i
		}
		ahead--
	}
	return -1
}
