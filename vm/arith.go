package vm

import "averment/ir"

// Arith tells what an instruction of two registers with these numbers comes to; false: it comes to nothing, or is none of these.
func Arith(op int, a, b int64) (int64, bool) {
	switch op {
	case ir.Add:
		return a + b, true
	case ir.Sub:
		return a - b, true
	case ir.Mul:
		return a * b, true
	case ir.Div, ir.Rem:
		return divided(op, a, b)
	case ir.And:
		return a & b, true
	case ir.Xor:
		return a ^ b, true
	case ir.Less:
		return oneIf(a < b), true
	case ir.Same:
		return oneIf(a == b), true
	}
	return 0, false
}

// divided leans on Go's own / and %, which go round at the least int by -1.
func divided(op int, a, b int64) (int64, bool) {
	if b == 0 {
		return 0, false
	}
	if op == ir.Div {
		return a / b, true
	}
	return a % b, true
}

func oneIf(is bool) int64 {
	if is {
		return 1
	}
	return 0
}
