package sign

import (
	"math"
	"strings"
	"testing"

	"averment/ir"
	"averment/vm"
)

// table is the chapter's, word for word.
const table = `
Add 4 | NZP | N | NZP | N | Z | P | NZP | P | NP
Sub 5 | NZP | N | NP | NP | Z | N | NP | P | NZP
Mul 6 | NZP | Z | NZP | Z | Z | Z | NZP | Z | NZP
Div 7 | NZP | - | NZ | Z | - | Z | NZ | - | ZP
Rem 8 | NZ | - | NZ | Z | - | Z | ZP | - | ZP
And 9 | N | Z | ZP | Z | Z | Z | ZP | Z | ZP
Xor 10 | ZP | N | N | N | Z | P | N | P | ZP
Less 11 | ZP | P | P | Z | Z | P | Z | Z | ZP
Same 12 | ZP | Z | Z | Z | P | Z | Z | Z | ZP`

// ops are all that layer 4 names with two registers, in the table's order.
var ops = []int{ir.Add, ir.Sub, ir.Mul, ir.Div, ir.Rem, ir.And, ir.Xor, ir.Less, ir.Same}

// others are no Op of two registers, and, but for Move and Neg, none of one.
var others = []int{
	math.MinInt, math.MinInt + 4, -9, -1, 0, ir.Const, ir.Move, ir.Neg,
	ir.Load, ir.Store, ir.Input, ir.Output, ir.Call, 18, 260, math.MaxInt,
}

// numbers are of each sign, with those at which reckoning goes round.
var numbers = []int64{
	math.MinInt64, math.MinInt64 + 1, math.MinInt64 + 2, -1 << 62, -1 << 32, -9, -8, -7, -3, -2, -1,
	0, 1, 2, 3, 7, 8, 9, 1 << 32, 1 << 62, math.MaxInt64 - 2, math.MaxInt64 - 1, math.MaxInt64,
}

// written are sets with bits beyond those that count, for each set from 0 to 7.
func written(s int) []int {
	return []int{s, s + 8, s + 8*1001, s - 8, s - 8*77, s + math.MinInt, math.MaxInt - 7 + s}
}

// signOf tells a sign by its letter.
func signOf(letter rune) int {
	return map[rune]int{'N': 1, 'Z': 2, 'P': 4}[letter]
}

// cells tells the table's sets, by Op and by pair of signs.
func cells() map[[3]int]int {
	all := map[[3]int]int{}
	signs := []int{1, 2, 4}
	for i, line := range strings.Split(strings.TrimSpace(table), "\n") {
		for j, cell := range strings.Split(line, " | ")[1:] {
			set := 0
			for _, letter := range cell {
				set |= signOf(letter)
			}
			all[[3]int{4 + i, signs[j/3], signs[j%3]}] = set
		}
	}
	return all
}

// P8.1: the signs, and what they are asked.
func TestSetsAreAskedByTheirThreeBits(t *testing.T) {
	if Neg != 1 || Zero != 2 || Pos != 4 {
		t.Error(Neg, Zero, Pos)
	}
	for _, n := range numbers {
		want := 2
		if n < 0 {
			want = 1
		} else if n > 0 {
			want = 4
		}
		if Of(n) != want {
			t.Error("Of", n, Of(n))
		}
		for s := range 8 {
			for _, x := range written(s) {
				if Has(x, n) != (s&want != 0) {
					t.Error("Has", x, n)
				}
			}
		}
	}
}

// P8.1: Right looks at all bits.
func TestRightIsOneToSeven(t *testing.T) {
	for s := -40; s < 40; s++ {
		if Right(s) != (s >= 1 && s <= 7) {
			t.Error(s, Right(s))
		}
	}
	for s := range 8 {
		for _, x := range written(s)[1:] {
			if Right(x) {
				t.Error(x)
			}
		}
	}
}

// P8.1: Join, Meet, Within, sign by sign.
func TestJoinMeetWithin(t *testing.T) {
	for a := range 8 {
		for b := range 8 {
			join, meet, within := 0, 0, true
			for _, g := range []int{1, 2, 4} {
				inA, inB := a/g%2 == 1, b/g%2 == 1
				if inA || inB {
					join += g
				}
				if inA && inB {
					meet += g
				}
				within = within && (inB || !inA)
			}
			for _, x := range written(a) {
				for _, y := range written(b) {
					if Join(x, y) != join || Meet(x, y) != meet || Within(x, y) != within {
						t.Error(x, y, Join(x, y), Meet(x, y), Within(x, y))
					}
				}
			}
		}
	}
}

// P8.1: One, of each set, and of an Op that is none of one register.
func TestOne(t *testing.T) {
	neg := [8]int{0, 5, 2, 7, 1, 5, 3, 7}
	for s := range 8 {
		for _, x := range written(s) {
			if One(ir.Move, x) != s || One(ir.Neg, x) != neg[s] {
				t.Error(x, One(ir.Move, x), One(ir.Neg, x))
			}
			for _, op := range append(append([]int{}, ops...), others...) {
				if op != ir.Move && op != ir.Neg && One(op, x) != 0 {
					t.Error(op, x)
				}
			}
		}
	}
}

// P8.1: Two, pair by pair by the chapter's table, for all sets.
func TestTwoIsTheTable(t *testing.T) {
	all := cells()
	if len(all) != 81 {
		t.Fatal(len(all))
	}
	for _, op := range ops {
		for a := range 8 {
			for b := range 8 {
				want := 0
				for _, g := range []int{1, 2, 4} {
					for _, h := range []int{1, 2, 4} {
						if a&g != 0 && b&h != 0 {
							want |= all[[3]int{op, g, h}]
						}
					}
				}
				for _, x := range written(a) {
					for _, y := range written(b) {
						if Two(op, x, y) != want {
							t.Error(op, x, y, Two(op, x, y), want)
						}
					}
				}
			}
		}
	}
}

// P8.1, P1: an Op that is none makes nothing.
func TestTwoOfAnotherOp(t *testing.T) {
	for _, op := range others {
		for a := -9; a < 17; a++ {
			for b := -9; b < 17; b++ {
				if Two(op, a, b) != 0 {
					t.Error(op, a, b)
				}
			}
		}
	}
}

// P8.1: Branch.
func TestBranch(t *testing.T) {
	for s := range 8 {
		for _, x := range written(s) {
			if Branch(x, true) != []int{0, 1, 0, 1, 4, 5, 4, 5}[s] || Branch(x, false) != []int{0, 0, 2, 2, 0, 0, 2, 2}[s] {
				t.Error(x, Branch(x, true), Branch(x, false))
			}
		}
	}
}

// P8.1: the chapter's examples.
func TestExamples(t *testing.T) {
	if Two(ir.Add, Pos, Pos) != 5 || Two(ir.Div, 7, Zero) != 0 {
		t.Error(Two(ir.Add, Pos, Pos), Two(ir.Div, 7, Zero))
	}
}

// P8.2: Two has the signs of what numbers come to, and no others; so has One.
func TestTwoIsJustWhatNumbersComeTo(t *testing.T) {
	for _, op := range ops {
		seen := map[[2]int]int{}
		for _, x := range numbers {
			for _, y := range numbers {
				if n, ok := vm.Arith(op, x, y); ok {
					seen[[2]int{Of(x), Of(y)}] |= Of(n)
				}
			}
		}
		for _, g := range []int{1, 2, 4} {
			for _, h := range []int{1, 2, 4} {
				if Two(op, g, h) != seen[[2]int{g, h}] {
					t.Error(op, g, h, Two(op, g, h), seen[[2]int{g, h}])
				}
			}
		}
	}
	seen := map[int]int{}
	for _, x := range numbers {
		seen[Of(x)] |= Of(-x)
	}
	for _, g := range []int{1, 2, 4} {
		if One(ir.Neg, g) != seen[g] || One(ir.Move, g) != g {
			t.Error(g, One(ir.Neg, g), seen[g])
		}
	}
}

// P8.3: more signs make as many, or more.
func TestMoreMakeMore(t *testing.T) {
	for a := range 8 {
		for more := range 8 {
			if !Within(a, more) {
				continue
			}
			for op := ir.Const; op <= ir.Call; op++ {
				if !Within(One(op, a), One(op, more)) {
					t.Error(op, a, more)
				}
				for b := range 8 {
					if !Within(Two(op, a, b), Two(op, more, b)) || !Within(Two(op, b, a), Two(op, b, more)) {
						t.Error(op, a, more, b)
					}
				}
			}
			if !Within(Branch(a, true), Branch(more, true)) || !Within(Branch(a, false), Branch(more, false)) {
				t.Error(a, more)
			}
		}
	}
}
