package solve

import (
	"averment/fact"
	"averment/flow"
	"averment/state"
)

// grown is v with room for more: as it is, if it has that.
func grown(v, more fact.Value) fact.Value {
	if fact.Within(more, v) {
		return v
	}
	return fact.Widen(v, more)
}

// grownState is s with room for more, likewise.
func grownState(s, more state.State) state.State {
	if state.Within(more, s) {
		return s
	}
	return state.Widen(s, more)
}

// growArgs makes room in a function's Sum for a call with args.
func growArgs(sum *flow.Sum, args []fact.Value) {
	if !sum.Called {
		sum.Called, sum.Args = true, args
		return
	}
	for i, v := range args {
		sum.Args[i] = grown(sum.Args[i], v)
	}
}

// growResult makes room in a function's Sum for what it returns.
func growResult(sum *flow.Sum, result fact.Value) {
	if !sum.Returns {
		sum.Returns, sum.Result = true, result
		return
	}
	sum.Result = grown(sum.Result, result)
}
