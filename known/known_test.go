package known

import (
	"math"
	"testing"

	"averment/ir"
	"averment/vm"
)

// ops are all that layer 4 names with two registers.
var ops = []int{ir.Add, ir.Sub, ir.Mul, ir.Div, ir.Rem, ir.And, ir.Xor, ir.Less, ir.Same}

// others are no Op of two registers, and, but for Move and Neg, none of one.
var others = []int{
	math.MinInt, math.MinInt + 4, -9, -1, 0, ir.Const, ir.Move, ir.Neg,
	ir.Load, ir.Store, ir.Input, ir.Output, ir.Call, 18, 260, math.MaxInt,
}

var numbers = []int64{
	math.MinInt64, math.MinInt64 + 1, -1 << 62, -1 << 32, -7, -3, -2, -1,
	0, 1, 2, 3, 7, 1 << 32, 1 << 62, math.MaxInt64 - 1, math.MaxInt64,
}

// knowns are any number, written rightly and wrongly, and single ones.
func knowns() []Known {
	all := []Known{{}, {N: 1}, {N: -5}, {N: math.MinInt64}, {N: math.MaxInt64}}
	for _, n := range numbers {
		all = append(all, Known{Is: true, N: n})
	}
	return all
}

// mayBe is what Has must tell, by the chapter's words.
func mayBe(k Known, n int64) bool {
	if k.Is {
		return n == k.N
	}
	return true
}

// P9.1: Right, Of, Any, Has.
func TestKnownsAreAsked(t *testing.T) {
	for _, n := range numbers {
		if Of(n) != (Known{Is: true, N: n}) || !Right(Of(n)) {
			t.Error(n, Of(n))
		}
		if Right(Known{N: n}) != (n == 0) {
			t.Error("Right", n)
		}
		for _, k := range knowns() {
			if Has(k, n) != mayBe(k, n) {
				t.Error("Has", k, n)
			}
		}
	}
	if Any() != (Known{}) || !Right(Any()) {
		t.Error(Any())
	}
}

// P9.1: Join, Meet, Within: what any number is counts for nothing.
func TestJoinMeetWithin(t *testing.T) {
	for _, a := range knowns() {
		for _, b := range knowns() {
			join, meet, some, within := Known{}, Known{}, true, false
			switch {
			case a.Is && b.Is && a.N == b.N:
				join, meet, within = a, a, true
			case a.Is && b.Is:
				some = false
			case a.Is:
				meet, within = a, true
			case b.Is:
				meet = b
			default:
				within = true
			}
			if Join(a, b) != join || Within(a, b) != within {
				t.Error(a, b, Join(a, b), Within(a, b))
			}
			if k, ok := Meet(a, b); k != meet || ok != some {
				t.Error(a, b, k, ok)
			}
		}
	}
}

// P9.1: One.
func TestOne(t *testing.T) {
	for _, k := range knowns() {
		move, neg := Known{}, Known{}
		if k.Is {
			move, neg = k, Of(0-k.N)
		}
		if got, ok := One(ir.Move, k); got != move || !ok {
			t.Error("Move", k, got, ok)
		}
		if got, ok := One(ir.Neg, k); got != neg || !ok {
			t.Error("Neg", k, got, ok)
		}
		for _, op := range append(append([]int{}, ops...), others...) {
			if op == ir.Move || op == ir.Neg {
				continue
			}
			if got, ok := One(op, k); got != (Known{}) || ok {
				t.Error(op, k, got, ok)
			}
		}
	}
	if k, ok := One(ir.Neg, Of(math.MinInt64)); k != Of(math.MinInt64) || !ok {
		t.Error("the least int", k, ok)
	}
}

// P9.1: Two, with what Arith tells; nothing comes of a number by 0, whatever it is.
func TestTwo(t *testing.T) {
	for _, op := range ops {
		for _, a := range knowns() {
			for _, b := range knowns() {
				want, some := Known{}, true
				switch {
				case (op == ir.Div || op == ir.Rem) && b.Is && b.N == 0:
					some = false
				case a.Is && b.Is:
					n, _ := vm.Arith(op, a.N, b.N)
					want = Of(n)
				}
				if k, ok := Two(op, a, b); k != want || ok != some {
					t.Error(op, a, b, k, ok)
				}
			}
		}
	}
}

// P9.1: Two of some numbers, reckoned by hand.
func TestTwoByHand(t *testing.T) {
	for _, c := range []struct {
		op         int
		a, b, want int64
	}{
		{ir.Add, 2, 3, 5}, {ir.Add, math.MaxInt64, 1, math.MinInt64},
		{ir.Sub, 2, 3, -1}, {ir.Sub, math.MinInt64, 1, math.MaxInt64},
		{ir.Mul, -3, 7, -21}, {ir.Mul, 1 << 62, 4, 0},
		{ir.Div, -7, 2, -3}, {ir.Div, math.MinInt64, -1, math.MinInt64},
		{ir.Rem, -7, 2, -1}, {ir.Rem, math.MinInt64, -1, 0},
		{ir.And, -2, 7, 6}, {ir.Xor, -1, 5, -6},
		{ir.Less, 1, 2, 1}, {ir.Less, 2, 2, 0},
		{ir.Same, 2, 2, 1}, {ir.Same, 2, 3, 0},
	} {
		if k, ok := Two(c.op, Of(c.a), Of(c.b)); k != Of(c.want) || !ok {
			t.Error(c, k, ok)
		}
	}
}

// P9.1, P1: an Op that is none makes nothing, whatever it is given.
func TestTwoOfAnotherOp(t *testing.T) {
	for _, op := range others {
		for _, a := range knowns() {
			for _, b := range knowns() {
				if k, ok := Two(op, a, b); k != (Known{}) || ok {
					t.Error(op, a, b, k, ok)
				}
			}
		}
	}
}

// P9.1: Branch.
func TestBranch(t *testing.T) {
	for _, k := range knowns() {
		yes, isYes, isNo := Known{}, true, true
		if k.Is {
			yes, isYes, isNo = k, k.N != 0, k.N == 0
		}
		no := Of(0)
		if !isYes {
			yes = Known{}
		}
		if !isNo {
			no = Known{}
		}
		if got, ok := Branch(k, true); got != yes || ok != isYes {
			t.Error(k, "yes", got, ok)
		}
		if got, ok := Branch(k, false); got != no || ok != isNo {
			t.Error(k, "no", got, ok)
		}
	}
}

// P9.1: the chapter's examples.
func TestExamples(t *testing.T) {
	if k, ok := Two(ir.Add, Of(2), Of(3)); k != Of(5) || !ok {
		t.Error(k, ok)
	}
	if k, ok := Two(ir.Div, Any(), Of(0)); k != Any() || ok {
		t.Error(k, ok)
	}
	if k, ok := Branch(Any(), false); k != Of(0) || !ok {
		t.Error(k, ok)
	}
}

// P9.2: what numbers come to may be.
func TestWhatNumbersComeToMayBe(t *testing.T) {
	for _, a := range knowns() {
		for _, x := range numbers {
			if !Has(a, x) {
				continue
			}
			if k, ok := One(ir.Neg, a); !ok || !Has(k, -x) {
				t.Error("Neg", a, x)
			}
			if k, ok := One(ir.Move, a); !ok || !Has(k, x) {
				t.Error("Move", a, x)
			}
			if k, ok := Branch(a, x != 0); !ok || !Has(k, x) {
				t.Error("Branch", a, x)
			}
			for _, b := range knowns() {
				for _, y := range numbers {
					if Has(b, y) {
						comesOf(t, a, b, x, y)
					}
				}
			}
		}
	}
}

func comesOf(t *testing.T, a, b Known, x, y int64) {
	for _, op := range ops {
		n, some := vm.Arith(op, x, y)
		if k, ok := Two(op, a, b); some && (!ok || !Has(k, n)) {
			t.Error(op, a, b, x, y)
		}
	}
}

// less tells whether what one call answers is within what the other does; nothing is within all.
func less(a Known, some bool, b Known, more bool) bool {
	return !some || more && Within(a, b)
}

// P9.3: of more numbers as many come about, or more.
func TestMoreMakeMore(t *testing.T) {
	for _, a := range knowns() {
		for _, more := range knowns() {
			if !Within(a, more) {
				continue
			}
			for op := ir.Const; op <= ir.Call; op++ {
				one, some := One(op, a)
				oneMore, someMore := One(op, more)
				if !less(one, some, oneMore, someMore) {
					t.Error("One", op, a, more)
				}
				for _, b := range knowns() {
					left, isLeft := Two(op, a, b)
					leftMore, isLeftMore := Two(op, more, b)
					right, isRight := Two(op, b, a)
					rightMore, isRightMore := Two(op, b, more)
					if !less(left, isLeft, leftMore, isLeftMore) || !less(right, isRight, rightMore, isRightMore) {
						t.Error("Two", op, a, more, b)
					}
				}
			}
			for _, yes := range []bool{false, true} {
				way, some := Branch(a, yes)
				wayMore, someMore := Branch(more, yes)
				if !less(way, some, wayMore, someMore) {
					t.Error("Branch", a, more, yes)
				}
			}
		}
	}
}
