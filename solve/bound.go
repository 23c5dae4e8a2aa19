package solve

import (
	"averment/cfg"
	"averment/ir"
)

const (
	// valueHeight is how often a Value can grow (layer 12).
	valueHeight = 6
	// sumHeight is how often a function's Sum can, but for its arguments: it is Called, it Returns, its Result grows.
	sumHeight = 2 + valueHeight
)

// Height is how often what is told of m can grow at most: 0, if m isn't well-formed.
func Height(m ir.Module) int {
	if ir.Check(m) != nil {
		return 0
	}
	h := valueHeight * len(m.Cells)
	for _, f := range m.Funcs {
		h += sumHeight + valueHeight*f.Arity + len(cfg.Cuts(f))*stateHeight(f)
	}
	for _, im := range m.Imports {
		// What it returns is any from the beginning on.
		h += 1 + valueHeight*im.Arity
	}
	return h
}

// stateHeight is how often the State of a cut point of f can grow: it is Reached, and each register's Value and sites grow.
func stateHeight(f ir.Func) int {
	sites := ir.Sites(ir.Module{Funcs: []ir.Func{f}})
	return 1 + f.Regs*(valueHeight+sites)
}

// Bound is how many steps are always enough: 0, if m isn't well-formed.
func Bound(m ir.Module) int {
	if ir.Check(m) != nil {
		return 0
	}
	// Behind each round in which something grew there may be one that changes no more than blocks that are no cut points; the last round changes nothing.
	return countBlocks(m) * (2*Height(m) + 2)
}
