package merge_test

import (
	"fmt"
	"math"
	"math/rand"
	"reflect"
	"testing"

	"averment/fact"
	"averment/flow"
	"averment/known"
	"averment/merge"
	"averment/parity"
	"averment/sign"
	"averment/span"
)

// from is a Value that tells nothing but a Span.
func from(lo, hi int64) fact.Value {
	v := fact.Any()
	v.Span = span.Span{Lo: lo, Hi: hi}
	return v
}

// called is the Sum of a function that is, with these arguments, and returns nothing.
func called(args ...fact.Value) flow.Sum { return flow.Sum{Called: true, Args: args} }

// returning is s, but it Returns.
func returning(s flow.Sum, result fact.Value) flow.Sum {
	s.Returns, s.Result = true, result
	return s
}

// idle is the Sum of a function that isn't Called.
var idle flow.Sum

// wantSum holds all of Sum's answer against a Sum; nil and empty lists are one.
func wantSum(t *testing.T, about string, a, b, want flow.Sum) {
	t.Helper()
	if got := merge.Sum(a, b); fmt.Sprint(got) != fmt.Sprint(want) {
		t.Errorf("%s: got %v, want %v", about, got, want)
	}
}

// P23.1: Called by none, by one, by both; it Returns in none, in one, in both.
func TestSum(t *testing.T) {
	low, high, joint := from(0, 3), from(2, 9), from(0, 9)
	one, two := fact.Of(1), fact.Of(2)
	onetwo := fact.Join(one, two)
	for _, c := range []struct {
		about      string
		a, b, want flow.Sum
	}{
		{"nothing is told", idle, idle, idle},
		{"Called by the first", called(one, two), idle, called(one, two)},
		{"Called by the second", idle, called(two, one), called(two, one)},
		{"Called by both", called(low, one), called(high, two), called(joint, onetwo)},
		{"Called by both, alike", called(low, one), called(low, one), called(low, one)},
		{"Called without arguments", called(), idle, called()},
		{"Called without arguments by both", called(), called(), called()},
		{"four arguments", called(one, two, low, one), called(one, one, high, two), called(one, onetwo, joint, onetwo)},
		{"the first Returns", returning(idle, one), idle, idle},
		{"the second Returns", idle, returning(idle, one), idle},
		{"both Return", returning(idle, low), returning(idle, high), returning(idle, from(2, 3))},
		{"both Return alike", returning(idle, two), returning(idle, two), returning(idle, two)},
		{"both Return, of one more is told", returning(idle, two), returning(idle, fact.Any()), returning(idle, two)},
		{"the first is Called, the second Returns", called(one), returning(idle, two), called(one)},
		{"the first is Called and Returns, the second does neither", returning(called(one), two), idle, called(one)},
		{"the second is Called and Returns, the first does neither", idle, returning(called(one), two), called(one)},
		{"one is Called, both Return", returning(called(one), low), returning(idle, high), returning(called(one), from(2, 3))},
		{"all of both", returning(called(low), low), returning(called(high), high), returning(called(joint), from(2, 3))},
	} {
		wantSum(t, c.about, c.a, c.b, c.want)
		wantSum(t, c.about+", the other way round", c.b, c.a, c.want)
	}
}

// P23.1: Results that have nothing in common, by each of the four alone: it doesn't Return, and there is no Result.
func TestSumOfNothingInCommon(t *testing.T) {
	signs, knowns, spans, parities := fact.Any(), fact.Any(), fact.Any(), fact.Any()
	signs.Sign, knowns.Known, spans.Span, parities.Parity = sign.Neg, known.Of(2), span.Span{Lo: 0, Hi: 4}, parity.Even
	others := []fact.Value{signs, knowns, spans, parities}
	others[0].Sign, others[1].Known, others[2].Span, others[3].Parity = sign.Zero|sign.Pos, known.Of(3), span.Span{Lo: 5, Hi: 9}, parity.Odd
	for i, v := range []fact.Value{signs, knowns, spans, parities} {
		args := called(v)
		wantSum(t, fmt.Sprint("by ", i), returning(idle, v), returning(idle, others[i]), idle)
		wantSum(t, fmt.Sprint("by ", i, ", Called by one"), returning(args, v), returning(idle, others[i]), args)
		wantSum(t, fmt.Sprint("by ", i, ", Called by both"), returning(args, v), returning(args, others[i]), args)
		// The four are apart: what one of them leaves may be less than the others tell.
		for j, w := range others {
			if i == j {
				continue
			}
			both, ok := fact.Meet(v, w)
			if !ok {
				t.Fatal(v, w)
			}
			wantSum(t, fmt.Sprint("by ", i, " and ", j), returning(args, v), returning(idle, w), returning(args, both))
		}
	}
	wantSum(t, "side by side", returning(idle, from(0, 4)), returning(idle, from(4, 8)), returning(idle, from(4, 4)))
	wantSum(t, "2 and 4", returning(idle, fact.Of(2)), returning(idle, fact.Of(4)), idle)
}

// times goes by chance, so many times.
func times(seed int64, n int, each func(source *rand.Rand)) {
	source := rand.New(rand.NewSource(seed))
	for range n {
		each(source)
	}
}

// P23.1, P8: Sum hangs on no order and no grouping; its Args have what either has, its Result what both have.
func TestSumByChance(t *testing.T) {
	returns, none, calls := 0, 0, 0
	times(1, 20000, func(source *rand.Rand) {
		arity := source.Intn(5)
		a, b, c := someSum(source, arity), someSum(source, arity), someSum(source, arity)
		s := merge.Sum(a, b)
		if fmt.Sprint(s) != fmt.Sprint(merge.Sum(b, a)) {
			t.Fatal("order", a, b)
		}
		if fmt.Sprint(merge.Sum(s, c)) != fmt.Sprint(merge.Sum(a, merge.Sum(b, c))) {
			t.Fatal("grouping", a, b, c)
		}
		if fmt.Sprint(merge.Sum(a, a)) != fmt.Sprint(a) {
			t.Fatal("with itself", a, merge.Sum(a, a))
		}
		if s.Called != (a.Called || b.Called) || !s.Called && s.Args != nil || s.Called && len(s.Args) != arity {
			t.Fatal(a, b, s)
		}
		if s.Returns && !(a.Returns && b.Returns) || !s.Returns && s.Result != (fact.Value{}) {
			t.Fatal(a, b, s)
		}
		for range 5 {
			n := someNumber(source)
			for i, v := range s.Args {
				calls++
				if a.Called && fact.Has(a.Args[i], n) && !fact.Has(v, n) || b.Called && fact.Has(b.Args[i], n) && !fact.Has(v, n) {
					t.Fatal("an argument is left out", n, a, b, s)
				}
			}
			both := a.Returns && b.Returns && fact.Has(a.Result, n) && fact.Has(b.Result, n)
			if both != (s.Returns && fact.Has(s.Result, n)) {
				t.Fatal("what is returned", n, a, b, s)
			}
		}
		if s.Returns {
			returns++
		} else if a.Returns && b.Returns {
			none++
		}
	})
	if returns < 1000 || none < 1000 || calls < 10000 {
		t.Error("too few", returns, none, calls)
	}
}

// P23.1: may an import be a function?
func TestImplied(t *testing.T) {
	low, high, joint := from(0, 3), from(0, 2), from(0, 9)
	for _, c := range []struct {
		about string
		i, f  flow.Sum
		want  bool
	}{
		{"nothing is told", idle, idle, true},
		{"the import isn't Called", idle, called(), true},
		{"the import isn't Called, the function Returns", idle, returning(called(), low), true},
		{"the import isn't Called, but Returns less", returning(idle, high), returning(called(low), low), true},
		{"the function isn't Called", called(), idle, false},
		{"the function isn't Called, but Returns", returning(called(), low), returning(idle, low), false},
		{"both are Called", called(), called(), true},
		{"alike", returning(called(low, high), low), returning(called(low, high), low), true},
		{"an argument tells more", called(high), called(low), true},
		{"an argument tells less", called(low), called(high), false},
		{"the first one tells less", called(joint, high, high), called(low, low, low), false},
		{"one in the middle tells less", called(high, joint, high), called(low, low, low), false},
		{"the last one tells less", called(high, high, joint), called(low, low, low), false},
		{"all tell more", called(high, high, high, high), called(low, low, joint, low), true},
		{"the function doesn't Return, the import does", returning(called(high), low), called(low), true},
		{"the function Returns, the import doesn't", called(high), returning(called(low), low), false},
		{"neither Returns", called(high), called(low), true},
		{"the function's Result tells more", returning(called(high), low), returning(called(low), high), true},
		{"the function's Result tells less", returning(called(high), high), returning(called(low), low), false},
		{"an argument tells less, the Result more", returning(called(low), low), returning(called(high), high), false},
		{"all of it", returning(called(high), joint), returning(called(joint), high), true},
	} {
		if got := merge.Implied(c.i, c.f); got != c.want {
			t.Errorf("%s: got %t", c.about, got)
		}
	}
	// By each of the four alone.
	for i, more := range parts() {
		less := fact.Any()
		if !merge.Implied(called(more), called(less)) || merge.Implied(called(less), called(more)) {
			t.Error("arguments, by ", i)
		}
		if !merge.Implied(returning(called(), less), returning(called(), more)) || merge.Implied(returning(called(), more), returning(called(), less)) {
			t.Error("results, by ", i)
		}
	}
}

// parts tell of a number by one of the four alone.
func parts() []fact.Value {
	all := []fact.Value{fact.Any(), fact.Any(), fact.Any(), fact.Any()}
	all[0].Sign, all[1].Known, all[2].Span.Hi, all[3].Parity = sign.Zero|sign.Pos, known.Of(2), 7, parity.Even
	return all
}

// P23.1, P8: an import that is Called by two modules is Implied just if both are; what a function takes and returns is what the import tells.
func TestImpliedByChance(t *testing.T) {
	yes, no := 0, 0
	times(2, 20000, func(source *rand.Rand) {
		arity := source.Intn(3)
		a, b, f := someSum(source, arity), someSum(source, arity), wideSum(source, arity)
		if source.Intn(2) == 0 {
			a.Returns, a.Result = true, fact.Any()
		}
		if source.Intn(2) == 0 {
			b.Returns, b.Result = true, fact.Any()
		}
		if !merge.Implied(a, a) {
			t.Fatal("itself", a)
		}
		got := merge.Implied(a, f)
		if got != modelImplied(a, f) {
			t.Fatal(a, f, got)
		}
		if a.Called && b.Called && merge.Implied(merge.Sum(a, b), f) != (got && merge.Implied(b, f)) {
			t.Fatal("both", a, b, f)
		}
		if got && a.Called {
			yes++
		} else if a.Called {
			no++
		}
	})
	if yes < 2000 || no < 2000 {
		t.Error("too few", yes, no)
	}
}

// wideSum is one of a function that often takes anything.
func wideSum(source *rand.Rand, arity int) flow.Sum {
	s := someSum(source, arity)
	for i := range s.Args {
		if source.Intn(2) == 0 {
			s.Args[i] = fact.Any()
		}
	}
	return s
}

// modelImplied is asked one thing after the other, each as a way out.
func modelImplied(i, f flow.Sum) bool {
	if i.Called && !f.Called {
		return false
	}
	for x := range i.Args {
		if i.Called && fact.Join(i.Args[x], f.Args[x]) != f.Args[x] {
			return false
		}
	}
	if i.Called && f.Returns {
		return i.Returns && fact.Join(f.Result, i.Result) == i.Result
	}
	return true
}

// P1: of Sums that don't fit, too, there is an end.
func TestSumsThatDontFit(t *testing.T) {
	sums := []flow.Sum{
		{}, called(fact.Of(1)), called(fact.Of(1), fact.Of(2)), called(make([]fact.Value, 9)...),
		{Args: []fact.Value{fact.Of(1)}}, {Returns: true}, {Result: fact.Of(3)}, {Called: true, Returns: true, Args: make([]fact.Value, 3)},
		called(fact.Value{Sign: math.MinInt, Known: known.Known{N: math.MinInt64}, Span: span.Span{Lo: math.MaxInt64, Hi: math.MinInt64}, Parity: math.MaxInt}),
		returning(called(), fact.Value{Sign: -1, Known: known.Known{Is: true, N: 7}, Span: span.Span{Lo: 9, Hi: 3}, Parity: -9}),
	}
	for _, a := range sums {
		for _, b := range sums {
			merge.Sum(a, b)
			merge.Implied(a, b)
		}
	}
	times(3, 5000, func(source *rand.Rand) {
		a, b := someSum(source, source.Intn(5)), someSum(source, source.Intn(5))
		spoilt(source, reflect.ValueOf(&a).Elem())
		merge.Sum(a, b)
		merge.Sum(b, a)
		merge.Implied(a, b)
		merge.Implied(b, a)
	})
	// An import that takes more, or less, than a function is none.
	if merge.Implied(called(fact.Of(1)), called()) || merge.Implied(called(), called(fact.Of(1))) {
		t.Error("counts")
	}
}

// P23.5: Args are new memory, and nothing that is handed in is changed or kept.
func TestMemoryOfSums(t *testing.T) {
	one, two := fact.Of(1), fact.Of(2)
	for _, c := range [][2]flow.Sum{
		{called(one, two), idle},
		{idle, called(one, two)},
		{returning(called(one, two), one), returning(called(two, one), one)},
		{called(one), called(one)},
	} {
		a, b := roomy(c[0]), roomy(c[1])
		before := whole(a) + whole(b)
		s, again := merge.Sum(a, b), merge.Sum(a, b)
		merge.Implied(a, b)
		if whole(a)+whole(b) != before || !apart(s, again, a, b) {
			t.Error("shares, or changed what was handed in", c)
		}
		told := fmt.Sprint(again)
		spoil(s)
		if fmt.Sprint(again) != told || whole(a)+whole(b) != before || fmt.Sprint(merge.Sum(a, b)) != told {
			t.Error("shares what it answers", c)
		}
		spoil(a)
		spoil(b)
		if fmt.Sprint(again) != told {
			t.Error("keeps what was handed in", c)
		}
	}
}
