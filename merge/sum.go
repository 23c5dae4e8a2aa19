package merge

import (
	"slices"

	"averment/fact"
	"averment/flow"
)

// Sum is what is told of an import that two modules have: either may call it, and what it returns must be as both take it.
func Sum(a, b flow.Sum) flow.Sum {
	s := flow.Sum{Called: a.Called || b.Called, Args: joinArgs(a, b)}
	result, ok := fact.Meet(a.Result, b.Result)
	if ok && a.Returns && b.Returns {
		s.Returns, s.Result = true, result
	}
	return s
}

// joinArgs are the arguments with which it is called by either.
func joinArgs(a, b flow.Sum) []fact.Value {
	switch {
	case !a.Called && !b.Called:
		return nil
	case !b.Called:
		return slices.Clone(a.Args)
	case !a.Called:
		return slices.Clone(b.Args)
	}
	var args []fact.Value
	// Two that don't fit the same count of arguments come to an end, too.
	for i := range min(len(a.Args), len(b.Args)) {
		args = append(args, fact.Join(a.Args[i], b.Args[i]))
	}
	return args
}

// Implied tells whether the import of which i is told may be the function of which f is told.
func Implied(i, f flow.Sum) bool {
	if !i.Called {
		return true
	}
	if !f.Called || !slices.EqualFunc(i.Args, f.Args, fact.Within) {
		return false
	}
	return !f.Returns || i.Returns && fact.Within(f.Result, i.Result)
}
