package text

import (
	"strconv"

	"averment/fact"
	"averment/flow"
	"averment/ir"
	"averment/parity"
	"averment/sign"
	"averment/span"
)

// insnWords are the words of instructions, from Const on.
var insnWords = [...]string{
	"const", "move", "neg",
	"add", "sub", "mul", "div", "rem", "and", "xor", "less", "same",
	"load", "store", "input", "output", "call",
}

// endWords are the words of Ends, from Jump on.
var endWords = [...]string{"jump", "branch", "return"}

// fields are those of x that stand first behind its word, as numbers, in their order.
func fields(x *ir.Insn) []*int {
	switch x.Op {
	case ir.Const, ir.Input, ir.Call:
		return []*int{&x.D}
	case ir.Move, ir.Neg:
		return []*int{&x.D, &x.A}
	case ir.Load:
		return []*int{&x.D, &x.B}
	case ir.Store:
		return []*int{&x.A, &x.B}
	case ir.Output:
		return []*int{&x.A}
	}
	return []*int{&x.D, &x.A, &x.B}
}

// endFields are those of e that stand behind its word, in their order.
func endFields(e *ir.End) []*int {
	switch e.Op {
	case ir.Jump:
		return []*int{&e.To}
	case ir.Branch:
		return []*int{&e.A, &e.To, &e.Else}
	}
	return []*int{&e.A}
}

// signs is the word of a set of signs.
func signs(s int) string {
	word := ""
	if s&sign.Neg != 0 {
		word += "N"
	}
	if s&sign.Zero != 0 {
		word += "Z"
	}
	if s&sign.Pos != 0 {
		word += "P"
	}
	return word
}

// number is the word of the one number that has v, if it is known.
func number(v fact.Value) string {
	if !v.Known.Is {
		return "any"
	}
	return "=" + strconv.FormatInt(v.Known.N, 10)
}

// ends is the word of a Span.
func ends(s span.Span) string { return end(s.Lo) + ".." + end(s.Hi) }

// end is one end of a Span: either of both is left out where it is the least int, or the greatest one.
func end(n int64) string {
	if n == span.Least || n == span.Greatest {
		return ""
	}
	return strconv.FormatInt(n, 10)
}

// parityWord is the word of a set of Even and Odd that isn't none.
func parityWord(p int) string {
	switch p {
	case parity.Even:
		return "even"
	case parity.Odd:
		return "odd"
	}
	return "both"
}

// sumWords tell what is told of a function, or of an import.
func sumWords(s flow.Sum) []string {
	words := []string{"idle"}
	if s.Called {
		words = []string{"called"}
	}
	// Only what is called has Args.
	for _, v := range s.Args {
		words = append(words, Value(v))
	}
	if !s.Returns {
		return append(words, "ends")
	}
	return append(words, "returns", Value(s.Result))
}
