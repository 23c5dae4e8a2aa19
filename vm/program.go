package vm

import "averment/ir"

// program is a module, with all its sites by their places. Nobody changes it: a Machine and its copies have one.
type program struct {
	m     ir.Module
	first []int
	sites [][][]int
}

// newProgram numbers the sites once: ir.Site would count them again at every step.
func newProgram(m ir.Module) *program {
	p := &program{m: ir.Copy(m)}
	for f := range p.m.Funcs {
		first := ir.First(p.m, f)
		p.first = append(p.first, first)
		p.sites = append(p.sites, sitesOf(p.m.Funcs[f], first))
	}
	return p
}

// sitesOf tells of each instruction of a function whose first site that is the site, -1 of one that sets no register.
func sitesOf(f ir.Func, first int) [][]int {
	site := first + f.Regs
	var sites [][]int
	for _, b := range f.Blocks {
		row := make([]int, len(b.Insns))
		for i, x := range b.Insns {
			row[i] = -1
			if _, sets := ir.Sets(x); sets {
				row[i] = site
				site++
			}
		}
		sites = append(sites, row)
	}
	return sites
}
