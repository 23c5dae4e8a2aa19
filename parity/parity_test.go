package parity

import (
	"math"
	"strings"
	"testing"

	"averment/ir"
	"averment/vm"
)

// table is the chapter's, a line for each Op.
const table = `
Add 4 | E | O | O | E
Sub 5 | E | O | O | E
Mul 6 | E | E | E | O
Div 7 | EO | EO | EO | EO
Rem 8 | E | EO | O | EO
And 9 | E | E | E | O
Xor 10 | E | O | O | E
Less 11 | EO | EO | EO | EO
Same 12 | EO | E | E | EO`

// ops are all that layer 4 names with two registers, in the table's order.
var ops = []int{ir.Add, ir.Sub, ir.Mul, ir.Div, ir.Rem, ir.And, ir.Xor, ir.Less, ir.Same}

// others are no Op of two registers, and, but for Move and Neg, none of one.
var others = []int{
	math.MinInt, math.MinInt + 4, -9, -1, 0, ir.Const, ir.Move, ir.Neg,
	ir.Load, ir.Store, ir.Input, ir.Output, ir.Call, 18, 260, math.MaxInt,
}

// numbers are even and odd ones on both sides of 0, with those at which reckoning goes round.
var numbers = []int64{
	math.MinInt64, math.MinInt64 + 1, math.MinInt64 + 2, -1 << 62, -1 << 32, -9, -8, -7, -6, -5, -4, -3, -2, -1,
	0, 1, 2, 3, 4, 5, 6, 7, 8, 9, 1 << 32, 1 << 62, math.MaxInt64 - 2, math.MaxInt64 - 1, math.MaxInt64,
}

// written are sets with bits beyond those that count, for each set from 0 to 3.
func written(p int) []int {
	return []int{p, p + 4, p + 8, p + 4*1001, p - 4, p - 4*77, p + math.MinInt, math.MaxInt - 3 + p}
}

// cells tells the table's sets, by Op and by pair.
func cells() map[[3]int]int {
	all := map[[3]int]int{}
	sets := map[string]int{"E": 1, "O": 2, "EO": 3}
	for i, line := range strings.Split(strings.TrimSpace(table), "\n") {
		for j, cell := range strings.Split(line, " | ")[1:] {
			all[[3]int{4 + i, 1 + j/2, 1 + j%2}] = sets[cell]
		}
	}
	return all
}

// P11.1: the sets, and what they are asked.
func TestSetsAreAskedByTheirTwoBits(t *testing.T) {
	if Even != 1 || Odd != 2 {
		t.Error(Even, Odd)
	}
	for _, n := range numbers {
		want := 1
		if n%2 != 0 {
			want = 2
		}
		if Of(n) != want {
			t.Error("Of", n, Of(n))
		}
		for p := range 4 {
			for _, x := range written(p) {
				if Has(x, n) != (p&want != 0) {
					t.Error("Has", x, n)
				}
			}
		}
	}
}

// P11.1: Right looks at all bits.
func TestRightIsOneToThree(t *testing.T) {
	for p := -40; p < 40; p++ {
		if Right(p) != (p >= 1 && p <= 3) {
			t.Error(p, Right(p))
		}
	}
	for p := range 4 {
		for _, x := range written(p)[1:] {
			if Right(x) {
				t.Error(x)
			}
		}
	}
}

// P11.1: Join, Meet, Within, one by one.
func TestJoinMeetWithin(t *testing.T) {
	for a := range 4 {
		for b := range 4 {
			join, meet, within := 0, 0, true
			for _, g := range []int{1, 2} {
				inA, inB := a/g%2 == 1, b/g%2 == 1
				if inA || inB {
					join += g
				}
				if inA && inB {
					meet += g
				}
				within = within && (inB || !inA)
			}
			for _, x := range written(a) {
				for _, y := range written(b) {
					if Join(x, y) != join || Meet(x, y) != meet || Within(x, y) != within {
						t.Error(x, y, Join(x, y), Meet(x, y), Within(x, y))
					}
				}
			}
		}
	}
}

// P11.1: One, of each set, and of an Op that is none of one register.
func TestOne(t *testing.T) {
	for p := range 4 {
		for _, x := range written(p) {
			if One(ir.Move, x) != p || One(ir.Neg, x) != p {
				t.Error(x, One(ir.Move, x), One(ir.Neg, x))
			}
			for _, op := range append(append([]int{}, ops...), others...) {
				if op != ir.Move && op != ir.Neg && One(op, x) != 0 {
					t.Error(op, x)
				}
			}
		}
	}
}

// P11.1: Two, pair by pair by the chapter's table, for all sets.
func TestTwoIsTheTable(t *testing.T) {
	all := cells()
	if len(all) != 36 {
		t.Fatal(len(all))
	}
	for _, op := range ops {
		for a := range 4 {
			for b := range 4 {
				want := 0
				for _, g := range []int{1, 2} {
					for _, h := range []int{1, 2} {
						if a&g != 0 && b&h != 0 {
							want |= all[[3]int{op, g, h}]
						}
					}
				}
				for _, x := range written(a) {
					for _, y := range written(b) {
						if Two(op, x, y) != want {
							t.Error(op, x, y, Two(op, x, y), want)
						}
					}
				}
			}
		}
	}
}

// P11.1, P1: an Op that is none makes nothing.
func TestTwoOfAnotherOp(t *testing.T) {
	for _, op := range others {
		for a := -9; a < 17; a++ {
			for b := -9; b < 17; b++ {
				if Two(op, a, b) != 0 {
					t.Error(op, a, b)
				}
			}
		}
	}
}

// P11.1: Branch.
func TestBranch(t *testing.T) {
	for p := range 4 {
		for _, x := range written(p) {
			if Branch(x, true) != p || Branch(x, false) != []int{0, 1, 0, 1}[p] {
				t.Error(x, Branch(x, true), Branch(x, false))
			}
		}
	}
}

// P11.1: the chapter's examples.
func TestExamples(t *testing.T) {
	if Two(ir.Mul, Odd, Odd) != Odd || Branch(Odd, false) != 0 {
		t.Error(Two(ir.Mul, Odd, Odd), Branch(Odd, false))
	}
}

// P11.2: Two has what numbers come to, and nothing else; so has One.
func TestTwoIsJustWhatNumbersComeTo(t *testing.T) {
	for _, op := range ops {
		seen := map[[2]int]int{}
		for _, x := range numbers {
			for _, y := range numbers {
				if n, ok := vm.Arith(op, x, y); ok {
					seen[[2]int{Of(x), Of(y)}] |= Of(n)
				}
			}
		}
		for _, g := range []int{1, 2} {
			for _, h := range []int{1, 2} {
				if Two(op, g, h) != seen[[2]int{g, h}] {
					t.Error(op, g, h, Two(op, g, h), seen[[2]int{g, h}])
				}
			}
		}
	}
	for _, x := range numbers {
		if One(ir.Neg, Of(x)) != Of(-x) || One(ir.Move, Of(x)) != Of(x) {
			t.Error(x)
		}
	}
}

// P11.3: more in a set makes as many, or more.
func TestMoreMakeMore(t *testing.T) {
	for a := range 4 {
		for more := range 4 {
			if !Within(a, more) {
				continue
			}
			for op := ir.Const; op <= ir.Call; op++ {
				if !Within(One(op, a), One(op, more)) {
					t.Error(op, a, more)
				}
				for b := range 4 {
					if !Within(Two(op, a, b), Two(op, more, b)) || !Within(Two(op, b, a), Two(op, b, more)) {
						t.Error(op, a, more, b)
					}
				}
			}
			if !Within(Branch(a, true), Branch(more, true)) || !Within(Branch(a, false), Branch(more, false)) {
				t.Error(a, more)
			}
		}
	}
}
