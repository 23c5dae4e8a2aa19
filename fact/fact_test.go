package fact

import (
	"math"
	"math/rand"
	"testing"

	"averment/ir"
	"averment/known"
	"averment/parity"
	"averment/sign"
	"averment/span"
	"averment/vm"
)

// ops are all that layer 4 names with two registers.
var ops = []int{ir.Add, ir.Sub, ir.Mul, ir.Div, ir.Rem, ir.And, ir.Xor, ir.Less, ir.Same}

// others are no Op of two registers, and, but for Move and Neg, none of one.
var others = []int{
	math.MinInt, math.MinInt + 4, -9, -1, 0, ir.Const, ir.Move, ir.Neg,
	ir.Load, ir.Store, ir.Input, ir.Output, ir.Call, 18, 260, math.MaxInt,
}

var numbers = []int64{
	math.MinInt64, math.MinInt64 + 1, -1 << 62, -1 << 32, -7, -4, -2, -1,
	0, 1, 2, 3, 6, 1 << 32, 1 << 62, math.MaxInt64 - 1, math.MaxInt64,
}

const (
	nzp  = sign.Neg + sign.Zero + sign.Pos
	both = parity.Even + parity.Odd
)

// from is a Span.
func from(lo, hi int64) span.Span { return span.Span{Lo: lo, Hi: hi} }

// wide is a Value that tells nothing but the Span.
func wide(lo, hi int64) Value { return Value{nzp, known.Known{}, from(lo, hi), both} }

// values are Right, also such as no number has: none of the four looks at another one.
func values() []Value {
	var all []Value
	for s := 1; s <= 7; s++ {
		for _, k := range []known.Known{{}, known.Of(0), known.Of(1), known.Of(-4), known.Of(math.MinInt64)} {
			for _, r := range []span.Span{from(0, 0), from(1, 3), from(-5, -1), from(-2, 4), from(math.MinInt64, 0), from(math.MinInt64, math.MaxInt64)} {
				for p := 1; p <= 3; p++ {
					all = append(all, Value{s, k, r, p})
				}
			}
		}
	}
	return all
}

// chosen are n of the values, by chance.
func chosen(source *rand.Rand, n int) []Value {
	all := values()
	source.Shuffle(len(all), func(i, j int) { all[i], all[j] = all[j], all[i] })
	return all[:n]
}

// wrong are not Right, each by one of the four alone.
var wrong = []Value{
	{0, known.Known{}, from(0, 1), 3},
	{8, known.Known{}, from(0, 1), 3},
	{-1, known.Known{}, from(0, 1), 3},
	{7, known.Known{N: 1}, from(0, 1), 3},
	{7, known.Known{N: -1}, from(0, 1), 3},
	{7, known.Known{}, from(1, 0), 3},
	{7, known.Known{}, from(math.MaxInt64, math.MinInt64), 3},
	{7, known.Known{}, from(0, 1), 0},
	{7, known.Known{}, from(0, 1), 4},
	{7, known.Known{}, from(0, 1), -1},
}

// P12.1: Right is of each of the four.
func TestRight(t *testing.T) {
	for _, v := range values() {
		if !Right(v) {
			t.Error(v)
		}
	}
	for _, v := range append([]Value{{}}, wrong...) {
		if Right(v) {
			t.Error(v)
		}
	}
}

// P12.1: Of and Any, and what they have.
func TestOfAndAny(t *testing.T) {
	if Any() != (Value{7, known.Known{}, from(math.MinInt64, math.MaxInt64), 3}) || !Right(Any()) {
		t.Error(Any())
	}
	for _, c := range []struct {
		n    int64
		want Value
	}{
		{0, Value{2, known.Known{Is: true}, from(0, 0), 1}},
		{5, Value{4, known.Known{Is: true, N: 5}, from(5, 5), 2}},
		{-2, Value{1, known.Known{Is: true, N: -2}, from(-2, -2), 1}},
		{-1, Value{1, known.Known{Is: true, N: -1}, from(-1, -1), 2}},
		{math.MinInt64, Value{1, known.Known{Is: true, N: math.MinInt64}, from(math.MinInt64, math.MinInt64), 1}},
		{math.MaxInt64, Value{4, known.Known{Is: true, N: math.MaxInt64}, from(math.MaxInt64, math.MaxInt64), 2}},
	} {
		if Of(c.n) != c.want || !Right(Of(c.n)) {
			t.Error(c.n, Of(c.n))
		}
	}
	for _, n := range numbers {
		for _, m := range numbers {
			if Has(Of(n), m) != (n == m) || !Has(Any(), m) {
				t.Error(n, m)
			}
		}
	}
}

// P12.1: Has wants all four: each of them alone may say no.
func TestHas(t *testing.T) {
	for _, c := range []struct {
		v    Value
		want bool
	}{
		{Value{4, known.Known{}, from(1, 5), 2}, true},
		{Value{4, known.Of(3), from(3, 3), 2}, true},
		{Value{3, known.Known{}, from(1, 5), 2}, false},
		{Value{4, known.Of(5), from(1, 5), 2}, false},
		{Value{4, known.Known{}, from(4, 5), 2}, false},
		{Value{4, known.Known{}, from(1, 2), 2}, false},
		{Value{4, known.Known{}, from(1, 5), 1}, false},
	} {
		if Has(c.v, 3) != c.want {
			t.Error(c)
		}
	}
	for _, v := range values() {
		for _, n := range numbers {
			want := sign.Has(v.Sign, n) && known.Has(v.Known, n) && span.Has(v.Span, n) && parity.Has(v.Parity, n)
			if Has(v, n) != want {
				t.Error(v, n)
			}
		}
	}
}

// orZero is v, or the zero Value, if one of the four has nothing.
func orZero(v Value, known, span bool) (Value, bool) {
	if v.Sign == 0 || !known || !span || v.Parity == 0 {
		return Value{}, false
	}
	return v, true
}

// P12.1: Join, Meet, Within, Widen: each of the four.
func TestJoinMeetWithinWiden(t *testing.T) {
	all := chosen(rand.New(rand.NewSource(1)), 300)
	for _, a := range all {
		for _, b := range all {
			join := Value{sign.Join(a.Sign, b.Sign), known.Join(a.Known, b.Known), span.Join(a.Span, b.Span), parity.Join(a.Parity, b.Parity)}
			widen := join
			widen.Span = span.Widen(a.Span, join.Span)
			k, isK := known.Meet(a.Known, b.Known)
			s, isS := span.Meet(a.Span, b.Span)
			meet, is := orZero(Value{sign.Meet(a.Sign, b.Sign), k, s, parity.Meet(a.Parity, b.Parity)}, isK, isS)
			within := sign.Within(a.Sign, b.Sign) && known.Within(a.Known, b.Known) && span.Within(a.Span, b.Span) && parity.Within(a.Parity, b.Parity)
			if Join(a, b) != join || Widen(a, b) != widen || Within(a, b) != within {
				t.Error(a, b, Join(a, b), Widen(a, b), Within(a, b))
			}
			if v, ok := Meet(a, b); v != meet || ok != is {
				t.Error("Meet", a, b, v, ok)
			}
		}
	}
}

// P12.1: One, Two, Branch: each of the four.
func TestOneTwoBranch(t *testing.T) {
	all := chosen(rand.New(rand.NewSource(2)), 150)
	for _, a := range values() {
		for _, op := range append([]int{ir.Move, ir.Neg}, others...) {
			k, isK := known.One(op, a.Known)
			s, isS := span.One(op, a.Span)
			one, is := orZero(Value{sign.One(op, a.Sign), k, s, parity.One(op, a.Parity)}, isK, isS)
			if v, ok := One(op, a); v != one || ok != is {
				t.Error("One", op, a, v, ok)
			}
		}
		for _, yes := range []bool{false, true} {
			k, isK := known.Branch(a.Known, yes)
			s, isS := span.Branch(a.Span, yes)
			way, is := orZero(Value{sign.Branch(a.Sign, yes), k, s, parity.Branch(a.Parity, yes)}, isK, isS)
			if v, ok := Branch(a, yes); v != way || ok != is {
				t.Error("Branch", a, yes, v, ok)
			}
		}
	}
	for _, a := range all {
		for _, b := range all {
			for _, op := range ops {
				k, isK := known.Two(op, a.Known, b.Known)
				s, isS := span.Two(op, a.Span, b.Span)
				two, is := orZero(Value{sign.Two(op, a.Sign, b.Sign), k, s, parity.Two(op, a.Parity, b.Parity)}, isK, isS)
				if v, ok := Two(op, a, b); v != two || ok != is {
					t.Error("Two", op, a, b, v, ok)
				}
			}
		}
	}
}

// P12.1, P1: an Op that is none makes nothing.
func TestOfAnotherOp(t *testing.T) {
	all := append(chosen(rand.New(rand.NewSource(3)), 40), Any(), Of(0), Of(5))
	for _, a := range all {
		for _, op := range append(append([]int{}, ops...), others...) {
			if v, ok := One(op, a); op != ir.Move && op != ir.Neg && (ok || v != Value{}) {
				t.Error("One", op, a, v, ok)
			}
		}
		for _, b := range all {
			for _, op := range others {
				if v, ok := Two(op, a, b); ok || v != (Value{}) {
					t.Error("Two", op, a, b, v, ok)
				}
			}
		}
	}
}

// P12.1: one of the four alone has nothing behind Meet, whichever it is.
func TestMeetOfWhichOneHasNothing(t *testing.T) {
	a := Value{5, known.Of(2), from(1, 5), 1}
	for _, b := range []Value{
		{2, known.Of(2), from(1, 5), 1},
		{5, known.Of(4), from(1, 5), 1},
		{5, known.Of(2), from(6, 9), 1},
		{5, known.Of(2), from(-9, 0), 1},
		{5, known.Of(2), from(1, 5), 2},
	} {
		for _, pair := range [][2]Value{{a, b}, {b, a}} {
			if v, ok := Meet(pair[0], pair[1]); ok || v != (Value{}) {
				t.Error(pair, v, ok)
			}
		}
	}
	b := Value{6, known.Known{}, from(0, 3), 3}
	if v, ok := Meet(a, b); !ok || v != (Value{4, known.Of(2), from(1, 3), 1}) {
		t.Error(v, ok)
	}
}

// P12.1: one of the four alone has nothing behind Two, whichever it is (a parity only if it had nothing).
func TestTwoOfWhichOneHasNothing(t *testing.T) {
	a := Value{7, known.Known{}, from(-9, 9), 3}
	for _, b := range []Value{
		{2, known.Known{}, from(-3, 3), 3},
		{7, known.Of(0), from(-3, 3), 3},
		{7, known.Known{}, from(0, 0), 3},
		{7, known.Known{}, from(-3, 3), 0},
	} {
		for _, op := range []int{ir.Div, ir.Rem} {
			if v, ok := Two(op, a, b); ok || v != (Value{}) {
				t.Error(op, b, v, ok)
			}
		}
	}
	if v, ok := Two(ir.Div, a, wide(-3, 3)); !ok || v != wide(-9, 9) {
		t.Error(v, ok)
	}
	// Of sets of signs and parities without anything nothing comes, whatever the Op is.
	for _, b := range []Value{{0, known.Known{}, from(1, 3), 3}, {7, known.Known{}, from(1, 3), 0}} {
		for _, op := range ops {
			if v, ok := Two(op, a, b); ok || v != (Value{}) {
				t.Error(op, b, v, ok)
			}
		}
		for _, op := range []int{ir.Move, ir.Neg} {
			if v, ok := One(op, b); ok || v != (Value{}) {
				t.Error(op, b, v, ok)
			}
		}
	}
}

// P12.1: one of the four alone has nothing behind Branch, whichever it is.
func TestBranchOfWhichOneHasNothing(t *testing.T) {
	for _, c := range []struct {
		v   Value
		yes bool
	}{
		{Value{2, known.Known{}, from(-3, 3), 3}, true},
		{Value{7, known.Of(0), from(-3, 3), 3}, true},
		{Value{7, known.Known{}, from(0, 0), 3}, true},
		{Value{5, known.Known{}, from(-3, 3), 3}, false},
		{Value{7, known.Of(2), from(-3, 3), 3}, false},
		{Value{7, known.Known{}, from(1, 3), 3}, false},
		{Value{7, known.Known{}, from(-3, -1), 3}, false},
		{Value{7, known.Known{}, from(-3, 3), 2}, false},
	} {
		if v, ok := Branch(c.v, c.yes); ok || v != (Value{}) {
			t.Error(c, v, ok)
		}
		// The other way is open.
		if v, ok := Branch(c.v, !c.yes); !ok || !Right(v) {
			t.Error(c, v, ok)
		}
	}
	if v, ok := Branch(wide(0, 3), true); !ok || v != (Value{5, known.Known{}, from(1, 3), 3}) {
		t.Error(v, ok)
	}
	if v, ok := Branch(wide(0, 3), false); !ok || v != (Value{2, known.Of(0), from(0, 0), 1}) {
		t.Error(v, ok)
	}
}

// P12.1: what is answered of Values that are Right is Right.
func TestAnswersAreRight(t *testing.T) {
	all := chosen(rand.New(rand.NewSource(4)), 120)
	for _, a := range all {
		for _, b := range all {
			answers := []Value{Join(a, b), Widen(a, b)}
			add := func(v Value, ok bool) {
				if ok {
					answers = append(answers, v)
				}
			}
			add(Meet(a, b))
			add(Branch(a, true))
			add(Branch(a, false))
			add(One(ir.Neg, a))
			for _, op := range ops {
				add(Two(op, a, b))
			}
			for _, v := range answers {
				if !Right(v) {
					t.Error(a, b, v)
				}
			}
		}
	}
}

// P12.1: the chapter's examples, and some of each call, reckoned by hand.
func TestByHand(t *testing.T) {
	join := Join(Of(2), Of(4))
	if join != (Value{4, known.Known{}, from(2, 4), 1}) {
		t.Error(join)
	}
	if v, ok := Meet(Of(2), Of(3)); ok || v != (Value{}) {
		t.Error(v, ok)
	}
	if v := Widen(Of(2), Of(4)); v != (Value{4, known.Known{}, from(2, math.MaxInt64), 1}) {
		t.Error(v)
	}
	if v := Widen(Of(2), Of(-1)); v != (Value{5, known.Known{}, from(math.MinInt64, 2), 3}) {
		t.Error(v)
	}
	if v := Widen(wide(0, 9), Of(4)); v != wide(0, 9) {
		t.Error(v)
	}
	if v, ok := One(ir.Neg, join); !ok || v != (Value{1, known.Known{}, from(-4, -2), 1}) {
		t.Error(v, ok)
	}
	if v, ok := One(ir.Move, join); !ok || v != join {
		t.Error(v, ok)
	}
	if v, ok := Two(ir.Sub, join, Of(3)); !ok || v != (Value{7, known.Known{}, from(-1, 1), 2}) {
		t.Error(v, ok)
	}
	if v, ok := Two(ir.Div, Of(5), join); !ok || v != (Value{6, known.Known{}, from(1, 2), 3}) {
		t.Error(v, ok)
	}
	if v, ok := Two(ir.Mul, Of(6), Of(-7)); !ok || v != (Value{7, known.Of(-42), from(-42, -42), 1}) {
		t.Error(v, ok)
	}
	if !Within(Of(4), join) || Within(Of(3), join) || Within(join, Of(4)) || !Within(join, join) {
		t.Error("Within")
	}
}

// P12.2, P3: what numbers come to may be.
func TestWhatNumbersComeToMayBe(t *testing.T) {
	source := rand.New(rand.NewSource(5))
	for range 60000 {
		x, y := numbers[source.Intn(len(numbers))], numbers[source.Intn(len(numbers))]
		a, b := around(source, x), around(source, y)
		if !Has(a, x) || !Has(b, y) {
			t.Fatal("no such number", a, x, b, y)
		}
		if v, ok := One(ir.Move, a); !ok || !Has(v, x) {
			t.Error("Move", a, x)
		}
		if v, ok := One(ir.Neg, a); !ok || !Has(v, -x) {
			t.Error("Neg", a, x)
		}
		if v, ok := Branch(a, x != 0); !ok || !Has(v, x) {
			t.Error("Branch", a, x)
		}
		if v := Join(a, b); !Has(v, x) || !Has(v, y) {
			t.Error("Join", a, b)
		}
		if v := Widen(a, b); !Has(v, x) || !Has(v, y) {
			t.Error("Widen", a, b)
		}
		if v, ok := Meet(a, b); Has(b, x) && (!ok || !Has(v, x)) {
			t.Error("Meet", a, b)
		}
		for _, op := range ops {
			n, is := vm.Arith(op, x, y)
			if v, ok := Two(op, a, b); is && (!ok || !Has(v, n)) {
				t.Error(op, a, b, x, y)
			}
		}
	}
}

// around is a Value that has n, and by chance more.
func around(source *rand.Rand, n int64) Value {
	v := Of(n)
	v.Sign |= source.Intn(8)
	v.Parity |= source.Intn(4)
	if source.Intn(3) > 0 {
		v.Known = known.Any()
	}
	for range source.Intn(3) {
		v.Span = span.Join(v.Span, span.Of(numbers[source.Intn(len(numbers))]))
	}
	return v
}

// more is a Value that a is within, by chance a greater one.
func more(source *rand.Rand, a Value) Value {
	return Join(a, around(source, numbers[source.Intn(len(numbers))]))
}

// less tells whether what one call answers is within what the other does; nothing is within all.
func less(a Value, is bool, b Value, isMore bool) bool {
	return !is || isMore && Within(a, b)
}

// P12.3: of more numbers as many come about, or more.
func TestMoreMakeMore(t *testing.T) {
	source := rand.New(rand.NewSource(6))
	for _, a := range values() {
		for range 30 {
			b := around(source, numbers[source.Intn(len(numbers))])
			a2, b2 := more(source, a), more(source, b)
			for op := ir.Const; op <= ir.Call; op++ {
				one, is := One(op, a)
				oneMore, isMore := One(op, a2)
				two, isTwo := Two(op, a, b)
				twoMore, isTwoMore := Two(op, a2, b2)
				if !less(one, is, oneMore, isMore) || !less(two, isTwo, twoMore, isTwoMore) {
					t.Error(op, a, a2, b, b2)
				}
			}
			for _, yes := range []bool{false, true} {
				way, is := Branch(a, yes)
				wayMore, isMore := Branch(a2, yes)
				if !less(way, is, wayMore, isMore) {
					t.Error("Branch", a, a2, yes)
				}
			}
			meet, is := Meet(a, b)
			meetMore, isMore := Meet(a2, b2)
			if !less(meet, is, meetMore, isMore) || !Within(Join(a, b), Join(a2, b2)) {
				t.Error("Meet, Join", a, a2, b, b2)
			}
		}
	}
}

// P12.4: Join and Meet hang on no order, and are the least and the greatest of their kind.
func TestJoinAndMeetAreTheBest(t *testing.T) {
	source := rand.New(rand.NewSource(7))
	all := chosen(source, 90)
	for _, a := range all {
		for _, b := range all {
			join := Join(a, b)
			meet, is := Meet(a, b)
			meetBack, isBack := Meet(b, a)
			if join != Join(b, a) || meet != meetBack || is != isBack {
				t.Error("order", a, b)
			}
			if !Within(a, join) || !Within(b, join) || is && (!Within(meet, a) || !Within(meet, b)) {
				t.Error("bounds", a, b)
			}
			if !Within(join, Widen(a, b)) {
				t.Error("Widen", a, b)
			}
			for _, c := range all {
				if Within(a, c) && Within(b, c) && !Within(join, c) {
					t.Error("Join", a, b, c)
				}
				if Within(c, a) && Within(c, b) && (!is || !Within(c, meet)) {
					t.Error("Meet", a, b, c)
				}
				if Join(join, c) != Join(a, Join(b, c)) {
					t.Error("grouping", a, b, c)
				}
			}
		}
	}
}

// widened counts how often v changes, widened by one after the other, and tells what it comes to.
func widened(v Value, by []Value) (int, Value) {
	changes := 0
	for _, b := range by {
		was := v
		v = Widen(v, b)
		if v != was {
			changes++
		}
	}
	return changes, v
}

// P12.5: six changes, one for each thing that may be told less, and not one more.
func TestWidenSixTimes(t *testing.T) {
	begin := Of(0)
	by := []Value{begin, begin, begin, begin, begin, begin}
	by[0].Sign = sign.Pos
	by[1].Sign = sign.Neg
	by[2].Known = known.Of(1)
	by[3].Span = from(0, 1)
	by[4].Span = from(-1, 0)
	by[5].Parity = parity.Odd
	changes, v := widened(begin, by)
	if changes != 6 || v != Any() {
		t.Error(changes, v)
	}
	if changes, _ := widened(v, append(values(), Of(0), Any())); changes != 0 {
		t.Error(changes)
	}
}

// P12.5: by whatever comes.
func TestWidenAgainAndAgain(t *testing.T) {
	source := rand.New(rand.NewSource(8))
	for _, v := range values() {
		var by []Value
		for range 120 {
			n := int64(source.Uint64() >> source.Intn(64))
			by = append(by, Of(n), around(source, numbers[source.Intn(len(numbers))]))
		}
		if changes, _ := widened(v, by); changes > 6 {
			t.Error(v, changes)
		}
	}
	var rising, falling []Value
	for n := range int64(500) {
		rising, falling = append(rising, Of(n)), append(falling, Of(-2*n))
	}
	for _, by := range [][]Value{rising, falling, append(rising, falling...)} {
		if changes, _ := widened(Of(0), by); changes > 6 {
			t.Error(changes)
		}
	}
}

// P1: of Values that aren't Right there is an end.
func TestWrongValuesEnd(t *testing.T) {
	all := append(append([]Value{{}}, wrong...), Any(), Of(3))
	for _, a := range all {
		for _, b := range all {
			Join(a, b)
			Meet(a, b)
			Within(a, b)
			Widen(a, b)
			for op := -2; op < 20; op++ {
				One(op, a)
				Two(op, a, b)
			}
		}
		for _, n := range numbers {
			Has(a, n)
		}
		Branch(a, true)
		Branch(a, false)
	}
}
