package span

import (
	"math/big"

	"averment/ir"
)

// whole is a Span with ends of any size, as the chapter's table tells them.
type whole struct{ lo, hi *big.Int }

func big64(n int64) *big.Int { return big.NewInt(n) }

func wholeOf(s Span) whole { return whole{big64(s.Lo), big64(s.Hi)} }

// lesserOf and greaterOf are of one number at least.
func lesserOf(all ...*big.Int) *big.Int {
	least := all[0]
	for _, n := range all {
		if n.Cmp(least) < 0 {
			least = n
		}
	}
	return least
}

func greaterOf(all ...*big.Int) *big.Int {
	most := all[0]
	for _, n := range all {
		if n.Cmp(most) > 0 {
			most = n
		}
	}
	return most
}

// orAll is w, or all, if an end of it is no int.
func orAll(w whole) Span {
	if !w.lo.IsInt64() || !w.hi.IsInt64() {
		return Span{-1 << 63, 1<<63 - 1}
	}
	return Span{w.lo.Int64(), w.hi.Int64()}
}

// extremes are the least and the greatest of what f makes of an end of a and an end of b.
func extremes(a, b whole, f func(x, y *big.Int) *big.Int) whole {
	all := []*big.Int{f(a.lo, b.lo), f(a.lo, b.hi), f(a.hi, b.lo), f(a.hi, b.hi)}
	return whole{lesserOf(all...), greaterOf(all...)}
}

// twoByWords is Two as the chapter's table has it.
func twoByWords(op int, s, u Span) (Span, bool) {
	a, b := wholeOf(s), wholeOf(u)
	switch op {
	case ir.Add:
		return orAll(whole{new(big.Int).Add(a.lo, b.lo), new(big.Int).Add(a.hi, b.hi)}), true
	case ir.Sub:
		return orAll(whole{new(big.Int).Sub(a.lo, b.hi), new(big.Int).Sub(a.hi, b.lo)}), true
	case ir.Mul:
		return orAll(extremes(a, b, func(x, y *big.Int) *big.Int { return new(big.Int).Mul(x, y) })), true
	case ir.Div:
		return divByWords(s, u)
	case ir.Rem:
		return remByWords(a, b)
	case ir.And:
		return andByWords(s, u), true
	case ir.Xor:
		return xorByWords(s, u), true
	case ir.Less:
		return lessByWords(s, u), true
	case ir.Same:
		return sameByWords(s, u), true
	}
	return Span{}, false
}

func divByWords(s, u Span) (Span, bool) {
	var ends []*big.Int
	if u.Lo < 0 {
		ends = append(ends, big64(u.Lo), big64(min(u.Hi, -1)))
	}
	if u.Hi > 0 {
		ends = append(ends, big64(max(u.Lo, 1)), big64(u.Hi))
	}
	if len(ends) == 0 {
		return Span{}, false
	}
	if s.Lo == -1<<63 && u.Lo <= -1 && u.Hi >= -1 {
		return Span{-1 << 63, 1<<63 - 1}, true
	}
	var all []*big.Int
	for _, y := range ends {
		all = append(all, new(big.Int).Quo(big64(s.Lo), y), new(big.Int).Quo(big64(s.Hi), y))
	}
	return orAll(whole{lesserOf(all...), greaterOf(all...)}), true
}

func remByWords(a, b whole) (Span, bool) {
	if b.lo.Sign() == 0 && b.hi.Sign() == 0 {
		return Span{}, false
	}
	m := greaterOf(new(big.Int).Abs(b.lo), new(big.Int).Abs(b.hi))
	m = new(big.Int).Sub(m, big64(1))
	from, to := big64(0), big64(0)
	if a.lo.Sign() < 0 {
		from = greaterOf(a.lo, new(big.Int).Neg(m))
	}
	if a.hi.Sign() > 0 {
		to = lesserOf(a.hi, m)
	}
	return orAll(whole{from, to}), true
}

func andByWords(s, u Span) Span {
	sHas, uHas := s.Lo < 0, u.Lo < 0
	if !sHas && !uHas {
		return Span{0, min(s.Hi, u.Hi)}
	}
	if !sHas {
		return Span{0, s.Hi}
	}
	if !uHas {
		return Span{0, u.Hi}
	}
	if s.Hi < 0 && u.Hi < 0 {
		return Span{-1 << 63, min(s.Hi, u.Hi)}
	}
	return Span{-1 << 63, max(s.Hi, u.Hi)}
}

// powerLess is the least number 2^k - 1 that isn't below n.
func powerLess(n *big.Int) *big.Int {
	for k := uint(0); ; k++ {
		p := new(big.Int).Sub(new(big.Int).Lsh(big64(1), k), big64(1))
		if p.Cmp(n) >= 0 {
			return p
		}
	}
}

func xorByWords(s, u Span) Span {
	turned := func(n int64) *big.Int { return new(big.Int).Sub(big64(-1), big64(n)) }
	none := func(x Span) bool { return x.Lo >= 0 }
	wholly := func(x Span) bool { return x.Hi < 0 }
	if none(s) && none(u) {
		return orAll(whole{big64(0), powerLess(big64(max(s.Hi, u.Hi)))})
	}
	if wholly(s) && wholly(u) {
		return orAll(whole{big64(0), powerLess(greaterOf(turned(s.Lo), turned(u.Lo)))})
	}
	if none(s) {
		s, u = u, s
	}
	if wholly(s) && none(u) {
		p := powerLess(greaterOf(turned(s.Lo), big64(u.Hi)))
		return orAll(whole{new(big.Int).Sub(big64(-1), p), big64(-1)})
	}
	return Span{-1 << 63, 1<<63 - 1}
}

func lessByWords(s, u Span) Span {
	if s.Hi < u.Lo {
		return Span{1, 1}
	}
	if !(s.Lo < u.Hi) {
		return Span{0, 0}
	}
	return Span{0, 1}
}

func sameByWords(s, u Span) Span {
	if s.Lo == s.Hi && u.Lo == u.Hi && s.Lo == u.Lo {
		return Span{1, 1}
	}
	if s.Hi < u.Lo || u.Hi < s.Lo {
		return Span{0, 0}
	}
	return Span{0, 1}
}
