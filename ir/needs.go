package ir

// What field B of an instruction is.
const (
	nothing = iota
	aRegister
	aCell
	aFunction
)

// fields are those that an instruction uses, by its Op alone.
type fields struct {
	d, a, n, args bool
	b             int
}

// needs tells which fields an Op uses; false: there is no such Op.
func needs(op int) (need fields, known bool) {
	switch op {
	case Add, Sub, Mul, Div, Rem, And, Xor, Less, Same:
		need.b = aRegister
		fallthrough
	case Move, Neg:
		need.a = true
		fallthrough
	case Input:
		need.d = true
	case Const:
		need.d, need.n = true, true
	case Load:
		need.d, need.b = true, aCell
	case Call:
		need.d, need.b, need.args = true, aFunction, true
	case Store:
		need.b = aCell
		fallthrough
	case Output:
		need.a = true
	default:
		return fields{}, false
	}
	return need, true
}

// endFields are those that an End uses, by its Op alone.
type endFields struct {
	a, to, other bool
}

// endNeeds tells which fields an End's Op uses; false: there is no such Op.
func endNeeds(op int) (need endFields, known bool) {
	switch op {
	case Branch:
		need.a, need.other = true, true
		fallthrough
	case Jump:
		need.to = true
	case Return:
		need.a = true
	default:
		return endFields{}, false
	}
	return need, true
}
