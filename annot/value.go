package annot

import (
	"averment/api"
	"averment/fact"
	"averment/fault"
	"averment/known"
	"averment/parity"
	"averment/sign"
	"averment/span"
	"averment/wire"
)

// What a Value's first byte is the sum of: its signs as they are, its parity in units, and which numbers are laid behind it.
const (
	signs      = sign.Neg | sign.Zero | sign.Pos
	parities   = parity.Even | parity.Odd
	parityUnit = 16
	hasNumber  = 8
	hasLo      = 64
	hasHi      = 128
)

// firstByte is that of a Value that is Right.
func firstByte(v fact.Value) byte {
	return byte(v.Sign) | byte(v.Parity)*parityUnit | bit(v.Known.Is, hasNumber) |
		bit(v.Span.Lo != span.Least, hasLo) | bit(v.Span.Hi != span.Greatest, hasHi)
}

// layValue lays a Value that is Right.
func layValue(w *wire.Writer, v fact.Value) {
	first := firstByte(v)
	w.Byte(first)
	if first&hasNumber != 0 {
		w.Int(v.Known.N)
	}
	if first&hasLo != 0 {
		w.Int(v.Span.Lo)
	}
	if first&hasHi != 0 {
		w.Int(v.Span.Hi)
	}
}

// value takes a Value.
func (t *taker) value() fact.Value {
	at := t.r.At()
	first := t.byte()
	v := fact.Value{Sign: int(first & signs), Known: known.Any(), Span: span.Any(), Parity: int(first / parityUnit & parities)}
	if v.Sign == 0 || v.Parity == 0 {
		t.fail(fault.At(api.ErrFact, at))
	}
	if first&hasNumber != 0 {
		v.Known = known.Of(t.number())
	}
	if first&hasLo != 0 {
		v.Span.Lo = t.number()
	}
	if first&hasHi != 0 {
		v.Span.Hi = t.number()
	}
	// An end that is none has no bytes: with some it would have two forms.
	if firstByte(v) != first || !span.Right(v.Span) {
		t.fail(fault.At(api.ErrFact, at))
	}
	return v
}
