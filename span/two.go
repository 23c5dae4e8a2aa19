package span

import (
	"math/bits"
	"slices"

	"averment/ir"
	"averment/vm"
)

// Two tells what an Op of two registers makes of a number of a, and one of b; false: nothing comes of them, or it is no such Op.
func Two(op int, a, b Span) (Span, bool) {
	switch op {
	case ir.Add:
		return sums(a, b), true
	case ir.Sub:
		return differences(a, b), true
	case ir.Mul:
		return products(a, b), true
	case ir.Div:
		return quotients(a, b)
	case ir.Rem:
		return remainders(a, b)
	case ir.And:
		return ands(a, b), true
	case ir.Xor:
		return xors(a, b), true
	case ir.Less:
		return lesses(a, b), true
	case ir.Same:
		return sames(a, b), true
	}
	return Span{}, false
}

func sums(a, b Span) Span {
	lo, fits := sum(a.Lo, b.Lo)
	hi, fit := sum(a.Hi, b.Hi)
	if !fits || !fit {
		return Any()
	}
	return Span{Lo: lo, Hi: hi}
}

// sum tells whether x + y is an int, too: if not, it goes round to the wrong side of x.
func sum(x, y int64) (int64, bool) {
	n := x + y
	return n, (n < x) == (y < 0)
}

func differences(a, b Span) Span {
	lo, fits := difference(a.Lo, b.Hi)
	hi, fit := difference(a.Hi, b.Lo)
	if !fits || !fit {
		return Any()
	}
	return Span{Lo: lo, Hi: hi}
}

// difference tells whether x - y is an int, too.
func difference(x, y int64) (int64, bool) {
	n := x - y
	return n, (n > x) == (y < 0)
}

func products(a, b Span) Span {
	var all []int64
	for _, x := range [2]int64{a.Lo, a.Hi} {
		for _, y := range [2]int64{b.Lo, b.Hi} {
			n, fits := product(x, y)
			if !fits {
				return Any()
			}
			all = append(all, n)
		}
	}
	return Span{Lo: slices.Min(all), Hi: slices.Max(all)}
}

// product tells whether x * y is an int, too: dividing it again tells that of all but the least int by -1.
func product(x, y int64) (int64, bool) {
	if y == -1 {
		return -x, x != Least
	}
	n := x * y
	return n, y == 0 || n/y == x
}

// quotients looks at what of b is below 0 and at what is above apart, since between them quotients leap.
func quotients(a, b Span) (Span, bool) {
	if a.Lo == Least && Has(b, -1) {
		return Any(), true
	}
	below, negative := Meet(b, Span{Lo: Least, Hi: -1})
	above, positive := Meet(b, Span{Lo: 1, Hi: Greatest})
	switch {
	case negative && positive:
		return Join(quotientsBy(a, below), quotientsBy(a, above)), true
	case negative:
		return quotientsBy(a, below), true
	case positive:
		return quotientsBy(a, above), true
	}
	return Span{}, false
}

// quotientsBy is of a part that has no 0: there the least and the greatest quotient are of ends.
func quotientsBy(a, part Span) Span {
	var all []int64
	for _, x := range [2]int64{a.Lo, a.Hi} {
		for _, y := range [2]int64{part.Lo, part.Hi} {
			n, _ := vm.Arith(ir.Div, x, y)
			all = append(all, n)
		}
	}
	return Span{Lo: slices.Min(all), Hi: slices.Max(all)}
}

// remainders are on a number's own side of 0, no further from 0 than it, and nearer than some number of b.
func remainders(a, b Span) (Span, bool) {
	if b == Of(0) {
		return Span{}, false
	}
	m := farthest(b)
	return Span{Lo: max(min(a.Lo, 0), -m), Hi: min(max(a.Hi, 0), m)}, true
}

// farthest is one less than the greatest distance of a number of b from 0; so it is an int for the least int, too.
func farthest(b Span) int64 {
	return max(-1-min(b.Lo, -1), max(b.Hi, 1)-1)
}

// ands leans on this: a number that isn't below 0 has no bit but those which And may keep.
func ands(a, b Span) Span {
	switch {
	case a.Lo >= 0 && b.Lo >= 0:
		return Span{Lo: 0, Hi: min(a.Hi, b.Hi)}
	case a.Lo >= 0:
		return Span{Lo: 0, Hi: a.Hi}
	case b.Lo >= 0:
		return Span{Lo: 0, Hi: b.Hi}
	case a.Hi < 0 && b.Hi < 0:
		return Span{Lo: Least, Hi: min(a.Hi, b.Hi)}
	}
	return Span{Lo: Least, Hi: max(a.Hi, b.Hi)}
}

// xors leans on this: -1 - n is n with all its bits turned, so that of two numbers below 0 it does what it does of those.
func xors(a, b Span) Span {
	switch {
	case a.Lo >= 0 && b.Lo >= 0:
		return Span{Lo: 0, Hi: ones(max(a.Hi, b.Hi))}
	case a.Hi < 0 && b.Hi < 0:
		return Span{Lo: 0, Hi: ones(max(-1-a.Lo, -1-b.Lo))}
	case a.Hi < 0 && b.Lo >= 0:
		return Span{Lo: -1 - ones(max(-1-a.Lo, b.Hi)), Hi: -1}
	case b.Hi < 0 && a.Lo >= 0:
		return Span{Lo: -1 - ones(max(-1-b.Lo, a.Hi)), Hi: -1}
	}
	return Any()
}

// ones is the least number 2^k - 1 that isn't below n.
func ones(n int64) int64 {
	return int64(uint64(1)<<bits.Len64(uint64(n)) - 1)
}

func lesses(a, b Span) Span {
	switch {
	case a.Hi < b.Lo:
		return Of(1)
	case a.Lo >= b.Hi:
		return Of(0)
	}
	return Span{Lo: 0, Hi: 1}
}

func sames(a, b Span) Span {
	if _, both := Meet(a, b); !both {
		return Of(0)
	}
	if a == b && a.Lo == a.Hi {
		return Of(1)
	}
	return Span{Lo: 0, Hi: 1}
}
