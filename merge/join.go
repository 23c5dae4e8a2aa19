package merge

import (
	"slices"

	"averment/api"
	"averment/fault"
	"averment/flow"
	"averment/ir"
	"averment/state"
	"averment/table"
)

// checkImplied tells the first import of m that is a function of other, but of which more is told than follows from that.
func checkImplied(m ir.Module, t table.Table, other ir.Module, told table.Table) error {
	for i, im := range m.Imports {
		f := ir.Find(other, im.Name)
		if f >= 0 && f < len(other.Funcs) && !Implied(t.Imports[i], told.Funcs[f].Sum) {
			return fault.At(api.ErrImply, len(m.Funcs)+i)
		}
	}
	return nil
}

// together is what is told of m, which a and b come to.
func together(m, a ir.Module, s table.Table, b ir.Module, t table.Table) table.Table {
	x, y := table.Copy(s), shifted(t, ir.Sites(a))
	told := table.Table{
		Cells: slices.Concat(x.Cells, y.Cells),
		Funcs: slices.Concat(x.Funcs, y.Funcs),
	}
	for _, im := range m.Imports {
		told.Imports = append(told.Imports, ofImport(im.Name, a, x, b, y))
	}
	return told
}

// shifted is t, but each site has so many more ahead.
func shifted(t table.Table, sites int) table.Table {
	t = table.Copy(t)
	for _, f := range t.Funcs {
		for b := range f.Blocks {
			f.Blocks[b].State = state.Shift(f.Blocks[b].State, sites)
		}
	}
	return t
}

// ofImport is what is told of the import of that name, which one of both modules has, or both.
func ofImport(name string, a ir.Module, s table.Table, b ir.Module, t table.Table) flow.Sum {
	i, j := findImport(a, name), findImport(b, name)
	switch {
	case i < 0:
		return t.Imports[j]
	case j < 0:
		return s.Imports[i]
	}
	return Sum(s.Imports[i], t.Imports[j])
}

// findImport is the place of that import among m's: -1, if there is none.
func findImport(m ir.Module, name string) int {
	return slices.IndexFunc(m.Imports, func(im ir.Import) bool { return im.Name == name })
}
