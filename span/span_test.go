package span

import (
	"math"
	"math/rand"
	"testing"

	"averment/ir"
	"averment/vm"
)

// ops are all that layer 4 names with two registers.
var ops = []int{ir.Add, ir.Sub, ir.Mul, ir.Div, ir.Rem, ir.And, ir.Xor, ir.Less, ir.Same}

// others are no Op of two registers, and, but for Move and Neg, none of one.
var others = []int{
	math.MinInt, math.MinInt + 4, -9, -1, 0, ir.Const, ir.Move, ir.Neg,
	ir.Load, ir.Store, ir.Input, ir.Output, ir.Call, 18, 260, math.MaxInt,
}

// numbers rise; among them are those at which reckoning goes round.
var numbers = []int64{
	math.MinInt64, math.MinInt64 + 1, -1 << 62, -1<<32 - 1, -9, -8, -2, -1,
	0, 1, 2, 7, 8, 1 << 31, 1 << 32, 1<<62 - 1, 1 << 62, math.MaxInt64 - 1, math.MaxInt64,
}

// spansOf are all Spans with ends of a rising list.
func spansOf(list []int64) []Span {
	var all []Span
	for i, lo := range list {
		for _, hi := range list[i:] {
			all = append(all, Span{Lo: lo, Hi: hi})
		}
	}
	return all
}

// small are all numbers from -n to n.
func small(n int64) []int64 {
	var all []int64
	for x := -n; x <= n; x++ {
		all = append(all, x)
	}
	return all
}

// P10.1: Right, Of, Any, Has.
func TestSpansAreAsked(t *testing.T) {
	if Least != math.MinInt64 || Greatest != math.MaxInt64 || Any() != (Span{math.MinInt64, math.MaxInt64}) {
		t.Error(Any())
	}
	for _, x := range numbers {
		if Of(x) != (Span{x, x}) || !Has(Any(), x) {
			t.Error(x, Of(x))
		}
		for _, y := range numbers {
			if Right(Span{x, y}) != (x <= y) {
				t.Error("Right", x, y)
			}
		}
		for _, s := range spansOf(numbers) {
			if Has(s, x) != (x >= s.Lo && x <= s.Hi) {
				t.Error("Has", s, x)
			}
		}
	}
}

// P10.1: Join, Meet, Within, number by number of what is small, and by ends of the rest.
func TestJoinMeetWithin(t *testing.T) {
	for _, list := range [][]int64{small(5), numbers} {
		for _, a := range spansOf(list) {
			for _, b := range spansOf(list) {
				joinMeetWithin(t, list, a, b)
			}
		}
	}
}

// joinMeetWithin holds them against what the numbers of list are in.
func joinMeetWithin(t *testing.T, list []int64, a, b Span) {
	var either, both []int64
	within := true
	for _, n := range list {
		inA, inB := Has(a, n), Has(b, n)
		if inA || inB {
			either = append(either, n)
		}
		if inA && inB {
			both = append(both, n)
		}
		within = within && (inB || !inA)
	}
	if want := (Span{either[0], either[len(either)-1]}); Join(a, b) != want {
		t.Error("Join", a, b, Join(a, b))
	}
	meet := Span{}
	if len(both) > 0 {
		meet = Span{both[0], both[len(both)-1]}
	}
	if s, ok := Meet(a, b); s != meet || ok != (len(both) > 0) {
		t.Error("Meet", a, b, s, ok)
	}
	if Within(a, b) != within {
		t.Error("Within", a, b)
	}
}

// P10.1: Widen.
func TestWiden(t *testing.T) {
	for _, a := range spansOf(numbers) {
		for _, b := range spansOf(numbers) {
			want := a
			if b.Lo < a.Lo {
				want.Lo = math.MinInt64
			}
			if b.Hi > a.Hi {
				want.Hi = math.MaxInt64
			}
			if Widen(a, b) != want {
				t.Error(a, b, Widen(a, b))
			}
			if !Within(Join(a, b), Widen(a, b)) {
				t.Error("less than a Join", a, b)
			}
		}
	}
}

// P10.4: a Span that is widened changes twice at most.
func TestWidenAgainAndAgain(t *testing.T) {
	source := rand.New(rand.NewSource(4))
	spans := spansOf(numbers)
	for _, s := range spans {
		changes := 0
		for range 200 {
			was := s
			s = Widen(s, spans[source.Intn(len(spans))])
			if s != was {
				changes++
			}
		}
		if changes > 2 {
			t.Error(s, changes)
		}
	}
	s := Of(0)
	for n := range int64(100) {
		s = Widen(s, Span{-n, n})
	}
	if s != Any() {
		t.Error(s)
	}
}

// P10.1: One, with the least int as an end.
func TestOne(t *testing.T) {
	for _, c := range [][2]Span{
		{{2, 5}, {-5, -2}}, {{-7, 9}, {-9, 7}}, {{0, 0}, {0, 0}}, {{-3, -3}, {3, 3}},
		{{Least + 1, Greatest}, {Least + 1, Greatest}},
		{{Least + 1, Least + 1}, {Greatest, Greatest}},
		{{Greatest, Greatest}, {Least + 1, Least + 1}},
		{{Least, Least}, {Least, Least}}, {{Least, Least + 1}, Any()},
		{{Least, 0}, Any()}, {{Least, Greatest}, Any()},
	} {
		if s, ok := One(ir.Neg, c[0]); s != c[1] || !ok {
			t.Error(c, s, ok)
		}
	}
	for _, s := range spansOf(numbers) {
		if got, ok := One(ir.Move, s); got != s || !ok {
			t.Error("Move", s, got, ok)
		}
		if s.Lo != Least {
			if got, ok := One(ir.Neg, s); got != (Span{-s.Hi, -s.Lo}) || !ok {
				t.Error("Neg", s, got, ok)
			}
		}
		for _, op := range append(append([]int{}, ops...), others...) {
			if op == ir.Move || op == ir.Neg {
				continue
			}
			if got, ok := One(op, s); got != (Span{}) || ok {
				t.Error(op, s, got, ok)
			}
		}
	}
}

// P10.1: Two is the chapter's table, reckoned with numbers of any size.
func TestTwoIsTheTable(t *testing.T) {
	for _, list := range [][]int64{small(4), numbers} {
		for _, a := range spansOf(list) {
			for _, b := range spansOf(list) {
				twoIsTheTable(t, a, b)
			}
		}
	}
}

// P10.1: likewise, of Spans that come by chance.
func TestTwoIsTheTableByChance(t *testing.T) {
	source := rand.New(rand.NewSource(10))
	chance := func() Span {
		x := int64(source.Uint64()) >> source.Intn(64)
		y := int64(source.Uint64()) >> source.Intn(64)
		return Span{min(x, y), max(x, y)}
	}
	for range 20000 {
		twoIsTheTable(t, chance(), chance())
	}
}

func twoIsTheTable(t *testing.T, a, b Span) {
	for _, op := range ops {
		want, some := twoByWords(op, a, b)
		if s, ok := Two(op, a, b); s != want || ok != some {
			t.Errorf("Two(%d, %v, %v) = %v %v, not %v %v", op, a, b, s, ok, want, some)
		}
	}
}

// P10.1: Two, by hand: sums, differences and products of ends that are no int, and those that just are.
func TestTwoOfEnds(t *testing.T) {
	half := int64(1) << 62
	byHand(t, []hand{
		{ir.Add, Span{1, 2}, Span{10, 30}, Span{11, 32}},
		{ir.Add, Span{0, Greatest}, Of(0), Span{0, Greatest}},
		{ir.Add, Span{1, Greatest}, Of(1), Any()},
		{ir.Add, Span{0, Greatest - 1}, Of(1), Span{1, Greatest}},
		{ir.Add, Span{Least, 5}, Of(1), Span{Least + 1, 6}},
		{ir.Add, Span{Least, 5}, Of(-1), Any()},
		{ir.Add, Span{Least, Least}, Span{Least, Least}, Any()},
		{ir.Add, Span{Least, 0}, Span{0, Greatest}, Any()},
		{ir.Sub, Span{1, 2}, Span{10, 30}, Span{-29, -8}},
		{ir.Sub, Span{0, 5}, Of(Least), Any()},
		{ir.Sub, Of(-1), Of(Least), Of(Greatest)},
		{ir.Sub, Of(Least), Of(1), Any()},
		{ir.Sub, Of(Least), Of(Least), Of(0)},
		{ir.Sub, Any(), Of(0), Any()},
		{ir.Mul, Span{-2, 3}, Span{-5, 7}, Span{-15, 21}},
		{ir.Mul, Span{-2, 3}, Span{-5, -4}, Span{-15, 10}},
		{ir.Mul, Of(Least), Of(-1), Any()},
		{ir.Mul, Of(-1), Of(Least), Any()},
		{ir.Mul, Of(Least), Of(1), Of(Least)},
		{ir.Mul, Any(), Of(0), Of(0)},
		{ir.Mul, Any(), Of(1), Any()},
		{ir.Mul, Span{0, half}, Of(2), Any()},
		{ir.Mul, Span{-half, 0}, Of(2), Span{Least, 0}},
		{ir.Mul, Span{0, 1 << 32}, Span{0, 1 << 32}, Any()},
		{ir.Mul, Span{0, 1 << 31}, Span{0, 1 << 31}, Span{0, half}},
	})
}

// P10.1: Div and Rem, by hand: by Spans on both sides of 0, by one that 0 ends, by the least int.
func TestTwoOfQuotients(t *testing.T) {
	byHand(t, []hand{
		{ir.Div, Span{-7, 9}, Span{-2, 3}, Span{-9, 9}},
		{ir.Div, Span{-7, 9}, Span{0, 3}, Span{-7, 9}},
		{ir.Div, Span{-7, 9}, Span{-2, 0}, Span{-9, 7}},
		{ir.Div, Span{-7, 9}, Span{-4, -2}, Span{-4, 3}},
		{ir.Div, Span{8, 9}, Span{2, 4}, Span{2, 4}},
		{ir.Div, Span{8, 9}, Span{-4, 4}, Span{-9, 9}},
		{ir.Div, Of(Least), Of(-1), Any()},
		{ir.Div, Of(Least), Span{-1, 5}, Any()},
		{ir.Div, Of(Least), Span{-3, -2}, Span{-(Least / 3), 1 << 62}},
		{ir.Div, Of(Least), Span{0, 1}, Of(Least)},
		{ir.Div, Span{Least + 1, 0}, Of(-1), Span{0, Greatest}},
		{ir.Div, Any(), Any(), Any()},
		{ir.Div, Span{0, 9}, Of(Least), Of(0)},
		{ir.Rem, Span{-9, 3}, Span{2, 5}, Span{-4, 3}},
		{ir.Rem, Span{-9, 9}, Span{-5, 2}, Span{-4, 4}},
		{ir.Rem, Span{-9, 9}, Span{0, 1}, Of(0)},
		{ir.Rem, Span{-9, 9}, Of(-1), Of(0)},
		{ir.Rem, Span{5, 9}, Span{10, 20}, Span{0, 9}},
		{ir.Rem, Span{-9, -5}, Span{10, 20}, Span{-9, 0}},
		{ir.Rem, Any(), Of(Least), Span{Least + 1, Greatest}},
		{ir.Rem, Of(Least), Any(), Span{Least + 1, 0}},
		{ir.Rem, Any(), Of(Greatest), Span{Least + 2, Greatest - 1}},
		{ir.Rem, Of(0), Any(), Of(0)},
	})
	for _, a := range spansOf(numbers) {
		for _, op := range []int{ir.Div, ir.Rem} {
			if s, ok := Two(op, a, Of(0)); s != (Span{}) || ok {
				t.Error("by 0", op, a, s, ok)
			}
		}
	}
}

// P10.1: And, Xor, Less and Same, by hand: Spans below 0, above, and on both sides.
func TestTwoOfBits(t *testing.T) {
	byHand(t, []hand{
		{ir.And, Span{1, 9}, Span{2, 3}, Span{0, 3}},
		{ir.And, Span{-4, 9}, Span{0, 3}, Span{0, 3}},
		{ir.And, Span{0, 9}, Span{-4, 3}, Span{0, 9}},
		{ir.And, Span{0, 9}, Span{-4, -3}, Span{0, 9}},
		{ir.And, Span{-9, -2}, Span{-4, -3}, Span{Least, -3}},
		{ir.And, Span{-9, 2}, Span{-4, -3}, Span{Least, 2}},
		{ir.And, Span{-9, 2}, Span{-4, 7}, Span{Least, 7}},
		{ir.And, Span{-9, -1}, Span{-4, 0}, Span{Least, 0}},
		{ir.Xor, Span{0, 5}, Span{0, 2}, Span{0, 7}},
		{ir.Xor, Span{0, 7}, Span{0, 2}, Span{0, 7}},
		{ir.Xor, Span{0, 8}, Span{0, 2}, Span{0, 15}},
		{ir.Xor, Of(0), Of(0), Of(0)},
		{ir.Xor, Of(0), Of(1), Span{0, 1}},
		{ir.Xor, Of(-1), Of(-1), Of(0)},
		{ir.Xor, Of(-1), Of(0), Of(-1)},
		{ir.Xor, Span{-3, -1}, Span{0, 4}, Span{-8, -1}},
		{ir.Xor, Span{0, 4}, Span{-3, -1}, Span{-8, -1}},
		{ir.Xor, Span{-9, -1}, Span{0, 4}, Span{-16, -1}},
		{ir.Xor, Span{-8, -1}, Span{-2, -1}, Span{0, 7}},
		{ir.Xor, Span{-9, -1}, Span{-2, -1}, Span{0, 15}},
		{ir.Xor, Span{Least, -1}, Span{0, 0}, Span{Least, -1}},
		{ir.Xor, Span{Least, -1}, Of(-1), Span{0, Greatest}},
		{ir.Xor, Span{0, Greatest}, Of(0), Span{0, Greatest}},
		{ir.Xor, Span{-1, 0}, Of(0), Any()},
		{ir.Xor, Of(-1), Span{-1, 0}, Any()},
		{ir.Less, Span{0, 3}, Span{4, 5}, Of(1)},
		{ir.Less, Span{0, 3}, Span{3, 5}, Span{0, 1}},
		{ir.Less, Span{3, 5}, Span{0, 3}, Of(0)},
		{ir.Less, Span{3, 5}, Span{0, 4}, Span{0, 1}},
		{ir.Less, Of(3), Of(3), Of(0)},
		{ir.Same, Of(3), Of(3), Of(1)},
		{ir.Same, Span{3, 4}, Span{3, 4}, Span{0, 1}},
		{ir.Same, Of(3), Span{3, 4}, Span{0, 1}},
		{ir.Same, Span{0, 2}, Span{3, 4}, Of(0)},
		{ir.Same, Span{3, 4}, Span{0, 2}, Of(0)},
		{ir.Same, Of(3), Of(4), Of(0)},
	})
}

type hand struct {
	op         int
	a, b, want Span
}

func byHand(t *testing.T, cases []hand) {
	for _, c := range cases {
		if s, ok := Two(c.op, c.a, c.b); s != c.want || !ok {
			t.Error(c, s, ok)
		}
	}
}

// P10.1: an Op that is none makes nothing.
func TestTwoOfAnotherOp(t *testing.T) {
	for _, op := range others {
		for _, a := range spansOf(small(2)) {
			if s, ok := Two(op, a, Any()); s != (Span{}) || ok {
				t.Error(op, a, s, ok)
			}
			if s, ok := Two(op, Any(), a); s != (Span{}) || ok {
				t.Error(op, a, s, ok)
			}
		}
	}
}

// P10.1: Branch.
func TestBranch(t *testing.T) {
	for _, c := range []struct {
		s, yes, no   Span
		isYes, isNot bool
	}{
		{s: Of(0), no: Of(0), isNot: true},
		{s: Span{0, 3}, yes: Span{1, 3}, isYes: true, no: Of(0), isNot: true},
		{s: Span{-3, 0}, yes: Span{-3, -1}, isYes: true, no: Of(0), isNot: true},
		{s: Span{0, 1}, yes: Of(1), isYes: true, no: Of(0), isNot: true},
		{s: Span{-1, 0}, yes: Of(-1), isYes: true, no: Of(0), isNot: true},
		{s: Span{-3, 3}, yes: Span{-3, 3}, isYes: true, no: Of(0), isNot: true},
		{s: Span{1, 3}, yes: Span{1, 3}, isYes: true},
		{s: Span{-3, -1}, yes: Span{-3, -1}, isYes: true},
		{s: Any(), yes: Any(), isYes: true, no: Of(0), isNot: true},
		{s: Span{0, Greatest}, yes: Span{1, Greatest}, isYes: true, no: Of(0), isNot: true},
		{s: Span{Least, 0}, yes: Span{Least, -1}, isYes: true, no: Of(0), isNot: true},
		{s: Of(Least), yes: Of(Least), isYes: true},
	} {
		if s, ok := Branch(c.s, true); s != c.yes || ok != c.isYes {
			t.Error(c.s, "yes", s, ok)
		}
		if s, ok := Branch(c.s, false); s != c.no || ok != c.isNot {
			t.Error(c.s, "no", s, ok)
		}
	}
}

// P10.1: what is answered of Right ones is Right.
func TestAnswersAreRight(t *testing.T) {
	for _, a := range spansOf(numbers) {
		for _, b := range spansOf(numbers) {
			for _, op := range ops {
				if s, _ := Two(op, a, b); !Right(s) {
					t.Error(op, a, b, s)
				}
			}
		}
	}
}

// P10.2: what numbers come to may be.
func TestWhatNumbersComeToMayBe(t *testing.T) {
	for _, list := range [][]int64{small(5), numbers} {
		for _, a := range spansOf(list) {
			for _, x := range list {
				if Has(a, x) {
					oneComes(t, a, x)
				}
			}
			for _, b := range spansOf(list) {
				twoCome(t, list, a, b)
			}
		}
	}
}

func oneComes(t *testing.T, a Span, x int64) {
	if s, ok := One(ir.Neg, a); !ok || !Has(s, -x) {
		t.Error("Neg", a, x)
	}
	if s, ok := One(ir.Move, a); !ok || !Has(s, x) {
		t.Error("Move", a, x)
	}
	if s, ok := Branch(a, x != 0); !ok || !Has(s, x) {
		t.Error("Branch", a, x)
	}
}

func twoCome(t *testing.T, list []int64, a, b Span) {
	for _, op := range ops {
		s, ok := Two(op, a, b)
		for _, x := range list {
			for _, y := range list {
				if !Has(a, x) || !Has(b, y) {
					continue
				}
				if n, some := vm.Arith(op, x, y); some && (!ok || !Has(s, n)) {
					t.Error(op, a, b, x, y)
				}
			}
		}
	}
}

// less tells whether what one call answers is within what the other does; nothing is within all.
func less(a Span, some bool, b Span, more bool) bool {
	return !some || more && Within(a, b)
}

// wider are a with one end at the next number of list: what holds from each to the next one holds from each to all with more.
func wider(list []int64, a Span) []Span {
	var all []Span
	for i := range len(list) - 1 {
		if list[i+1] == a.Lo {
			all = append(all, Span{list[i], a.Hi})
		}
		if list[i] == a.Hi {
			all = append(all, Span{a.Lo, list[i+1]})
		}
	}
	return all
}

// P10.3: of more numbers as many come about, or more.
func TestMoreMakeMore(t *testing.T) {
	for _, list := range [][]int64{small(6), numbers} {
		for _, a := range spansOf(list) {
			for _, more := range wider(list, a) {
				oneMore(t, a, more)
				for _, b := range spansOf(list) {
					twoMore(t, a, more, b)
				}
			}
		}
	}
}

func oneMore(t *testing.T, a, more Span) {
	for _, op := range []int{ir.Move, ir.Neg} {
		s, some := One(op, a)
		sMore, someMore := One(op, more)
		if !less(s, some, sMore, someMore) {
			t.Error("One", op, a, more)
		}
	}
	for _, yes := range []bool{false, true} {
		s, some := Branch(a, yes)
		sMore, someMore := Branch(more, yes)
		if !less(s, some, sMore, someMore) {
			t.Error("Branch", a, more, yes)
		}
	}
}

func twoMore(t *testing.T, a, more, b Span) {
	for _, op := range ops {
		left, isLeft := Two(op, a, b)
		leftMore, isLeftMore := Two(op, more, b)
		right, isRight := Two(op, b, a)
		rightMore, isRightMore := Two(op, b, more)
		if !less(left, isLeft, leftMore, isLeftMore) || !less(right, isRight, rightMore, isRightMore) {
			t.Error("Two", op, a, more, b)
		}
	}
}

// P1: every call ends, of Spans that aren't Right, too.
func TestAllCallsEnd(t *testing.T) {
	for _, lo := range numbers {
		for _, hi := range numbers {
			a := Span{lo, hi}
			One(ir.Neg, a)
			Branch(a, true)
			Branch(a, false)
			for _, x := range numbers {
				for _, y := range numbers {
					b := Span{x, y}
					for _, op := range append([]int{0, ir.Call}, ops...) {
						Two(op, a, b)
					}
					Meet(a, b)
					Join(a, b)
					Widen(a, b)
				}
			}
		}
	}
}
