package state

import (
	"fmt"
	"math"
	"math/rand"
	"slices"
	"testing"

	"averment/fact"
	"averment/known"
	"averment/span"
)

// text is all that is to be seen of a State; nil and empty lists are one.
func text(s State) string { return fmt.Sprint(s.Reached, s.Vals, s.Sites) }

// want holds a State against another one, part by part.
func want(t *testing.T, what string, got, want State) {
	t.Helper()
	if text(got) != text(want) {
		t.Errorf("%s: got %v, want %v", what, got, want)
	}
}

// at is Reached, with these Values, each from these sites.
func at(vals []fact.Value, sites ...[]int) State {
	return State{Reached: true, Vals: vals, Sites: sites}
}

// from is a Value that tells nothing but a Span.
func from(lo, hi int64) fact.Value {
	v := fact.Any()
	v.Span = span.Span{Lo: lo, Hi: hi}
	return v
}

// of are the Values of numbers.
func of(numbers ...int64) []fact.Value {
	var vals []fact.Value
	for _, n := range numbers {
		vals = append(vals, fact.Of(n))
	}
	return vals
}

// P13.1: Right.
func TestRight(t *testing.T) {
	for _, c := range []struct {
		about       string
		s           State
		regs, sites int
		want        bool
	}{
		{"nobody comes there", State{}, 2, 7, true},
		{"nobody, no registers", State{}, 0, 0, true},
		{"nobody, counts that can't be", State{}, -3, -1, true},
		{"nobody, too many sites", State{}, 1, 5000, true},
		{"nobody, empty lists", State{Vals: []fact.Value{}, Sites: [][]int{}}, 2, 7, true},
		{"nobody, but Vals", State{Vals: of(1)}, 1, 7, false},
		{"nobody, but Sites", State{Sites: [][]int{{}}}, 1, 7, false},
		{"nobody, but both", State{Vals: of(1), Sites: [][]int{{1}}}, 1, 7, false},
		{"no registers", State{Reached: true}, 0, 0, true},
		{"less than no registers", State{Reached: true}, -1, 0, false},
		{"none of one", State{Reached: true}, 1, 7, false},
		{"two", at(of(1, 2), []int{0, 3}, []int{6}), 2, 7, true},
		{"fewer", at(of(1, 2), []int{0, 3}, []int{6}), 3, 7, false},
		{"more", at(of(1, 2), []int{0, 3}, []int{6}), 1, 7, false},
		{"a site too many", at(of(1, 2), []int{0, 3}, []int{6}), 2, 6, false},
		{"no sites", at(of(1), nil), 1, 0, true},
		{"fewer Vals", at(of(1), []int{0}, []int{1}), 2, 7, false},
		{"fewer Sites", at(of(1, 2), []int{0}), 2, 7, false},
		{"fewer Vals, of one", at(of(1), []int{0}, []int{1}), 1, 7, false},
		{"fewer Sites, of one", at(of(1, 2), []int{0}), 1, 7, false},
		{"a Value that isn't", at([]fact.Value{fact.Of(1), {}}, []int{0}, []int{1}), 2, 7, false},
		{"a first Value that isn't", at([]fact.Value{from(1, 0), fact.Of(1)}, []int{0}, []int{1}), 2, 7, false},
		{"a site twice", at(of(1), []int{2, 2}), 1, 7, false},
		{"sites that fall", at(of(1), []int{3, 2}), 1, 7, false},
		{"a site below 0", at(of(1), []int{-1, 2}), 1, 7, false},
		{"a wrong set ahead", at(of(1, 1), []int{7}, []int{2}), 2, 7, false},
		{"as many sites as may be", at(of(1), []int{4095}), 1, 4096, true},
		{"more sites than may be", at(of(1), []int{2}), 1, 4097, false},
		{"less than no sites", at(of(1), nil), 1, -1, false},
	} {
		if Right(c.s, c.regs, c.sites) != c.want {
			t.Error(c.about)
		}
	}
}

// P13.1: None, and what isn't Reached.
func TestNone(t *testing.T) {
	want(t, "None", None(), State{})
	if len(None().Vals) != 0 || len(None().Sites) != 0 || !Right(None(), 8, 9) {
		t.Error(None())
	}
	if Has(None(), nil, nil) || Has(None(), []int64{0}, []int{0}) {
		t.Error("it has something")
	}
}

// P13.1: Begin, with as many args as registers, with fewer, with more.
func TestBegin(t *testing.T) {
	any := fact.Any()
	for _, c := range []struct {
		about string
		regs  int
		args  []fact.Value
		first int
		want  State
	}{
		{"the chapter's example", 2, []fact.Value{any}, 5, at([]fact.Value{any, fact.Of(0)}, []int{5}, []int{6})},
		{"as many", 2, of(3, -4), 0, at(of(3, -4), []int{0}, []int{1})},
		{"no args", 3, nil, 7, at(of(0, 0, 0), []int{7}, []int{8}, []int{9})},
		{"more args", 1, of(8, 9, 10), 2, at(of(8), []int{2})},
		{"no registers", 0, of(8, 9), 2, State{Reached: true}},
		{"nothing", 0, nil, 0, State{Reached: true}},
		{"less than no registers", -1, of(8, 9), 2, State{Reached: true}},
		{"far less", math.MinInt, of(8, 9), 2, State{Reached: true}},
		{"at the last sites", 2, nil, 4094, at(of(0, 0), []int{4094}, []int{4095})},
	} {
		got := Begin(c.regs, c.args, c.first)
		want(t, c.about, got, c.want)
		if !Right(got, max(c.regs, 0), c.first+max(c.regs, 0)) {
			t.Error(c.about, got)
		}
	}
}

// kinds are States that differ, each from all others.
func kinds() []State {
	return []State{
		{},
		{Reached: true},
		at(of(1), []int{0}),
		at(of(1), []int{1}),
		at(of(1), nil),
		at(of(2), []int{0}),
		at(of(1), []int{0, 1}),
		at(of(1, 1), []int{0}, []int{1}),
		at(of(1, 2), []int{0}, []int{1}),
		at(of(2, 1), []int{0}, []int{1}),
		at(of(1, 2), []int{1}, []int{0}),
		at(of(1, 2), []int{0}, []int{1, 4}),
		at([]fact.Value{fact.Any(), fact.Of(2)}, []int{0}, []int{1}),
		// Not Right, but of another kind.
		{Vals: of(1)},
		{Sites: [][]int{{0}}},
		{Vals: of(1), Sites: [][]int{{0}}},
		at(of(1)),
		at(nil, []int{0}),
	}
}

// P13.1: Copy, Equal.
func TestCopyAndEqual(t *testing.T) {
	for i, a := range kinds() {
		want(t, "Copy", Copy(a), a)
		for j, b := range kinds() {
			if Equal(a, b) != (i == j) || Equal(Copy(a), b) != (i == j) {
				t.Error(a, b)
			}
		}
	}
	if !Equal(State{}, State{Vals: []fact.Value{}, Sites: [][]int{}}) || !Equal(at(of(1), nil), at(of(1), []int{})) {
		t.Error("nil and empty lists are one")
	}
}

// P13.1: Join and Widen, by hand.
func TestJoinAndWiden(t *testing.T) {
	a := at(of(2, 7), []int{1, 4}, []int{3})
	b := at(of(4, 7), []int{0, 4, 9}, []int{2})
	even := fact.Join(fact.Of(2), fact.Of(4))
	wide := even
	wide.Span.Hi = math.MaxInt64
	sets := [][]int{{0, 1, 4, 9}, {2, 3}}
	want(t, "Join", Join(a, b), at([]fact.Value{even, fact.Of(7)}, sets...))
	want(t, "Widen", Widen(a, b), at([]fact.Value{wide, fact.Of(7)}, sets...))
	down := even
	down.Span.Lo = math.MinInt64
	want(t, "Widen back", Widen(b, a), at([]fact.Value{down, fact.Of(7)}, sets...))

	c := at(of(4, 7, 5), []int{0, 4, 9}, []int{2}, []int{5})
	for about, both := range map[string][2]State{"fewer": {a, c}, "more": {c, a}} {
		want(t, "Join of "+about, Join(both[0], both[1]), at([]fact.Value{even, fact.Of(7)}, sets...))
	}
	want(t, "Widen by more", Widen(a, c), at([]fact.Value{wide, fact.Of(7)}, sets...))
	want(t, "Widen by fewer", Widen(c, a), at([]fact.Value{down, fact.Of(7)}, sets...))
	want(t, "Join with no registers", Join(a, State{Reached: true}), State{Reached: true})
	want(t, "Widen by no registers", Widen(a, State{Reached: true}), State{Reached: true})

	for _, together := range []func(a, b State) State{Join, Widen} {
		want(t, "none ahead", together(State{}, a), a)
		want(t, "none behind", together(a, State{}), a)
		want(t, "none of both", together(State{}, State{}), State{})
		want(t, "itself", together(a, a), a)
		want(t, "none, and no registers", together(State{}, State{Reached: true}), State{Reached: true})
	}
}

// P13.1: Within, by hand.
func TestWithin(t *testing.T) {
	a := at([]fact.Value{from(1, 3), fact.Of(7)}, []int{1, 4}, []int{3})
	for _, c := range []struct {
		about string
		a, b  State
		want  bool
	}{
		{"itself", a, a, true},
		{"none in none", State{}, State{}, true},
		{"none in all", State{}, a, true},
		{"none in no registers", State{}, State{Reached: true}, true},
		{"some in none", a, State{}, false},
		{"no registers in none", State{Reached: true}, State{}, false},
		{"no registers in no registers", State{Reached: true}, State{Reached: true}, true},
		{"two in none", a, State{Reached: true}, false},
		{"none in two", State{Reached: true}, a, false},
		{"fewer", at(of(2), []int{1}), a, false},
		{"more", at(of(2, 7, 0), []int{1}, []int{3}, []int{0}), a, false},
		{"less of each", at(of(2, 7), []int{4}, []int{3}), a, true},
		{"no sites", at(of(2, 7), nil, nil), a, true},
		{"a greater Value", at([]fact.Value{from(1, 4), fact.Of(7)}, []int{1, 4}, []int{3}), a, false},
		{"another Value, the last one", at(of(2, 8), []int{1, 4}, []int{3}), a, false},
		{"a site more", at(of(2, 7), []int{1, 2, 4}, []int{3}), a, false},
		{"another site, the last one", at(of(2, 7), []int{1, 4}, []int{2}), a, false},
	} {
		if Within(c.a, c.b) != c.want {
			t.Error(c.about)
		}
	}
}

// P13.1: Has, by hand.
func TestHas(t *testing.T) {
	s := at([]fact.Value{from(1, 3), fact.Of(7)}, []int{1, 4}, []int{3})
	for _, c := range []struct {
		about string
		s     State
		regs  []int64
		last  []int
		want  bool
	}{
		{"one", s, []int64{1, 7}, []int{1, 3}, true},
		{"another one", s, []int64{3, 7}, []int{4, 3}, true},
		{"another number", s, []int64{4, 7}, []int{1, 3}, false},
		{"another number, the last one", s, []int64{1, 8}, []int{1, 3}, false},
		{"another site", s, []int64{1, 7}, []int{2, 3}, false},
		{"another site, the last one", s, []int64{1, 7}, []int{1, 4}, false},
		{"no site", s, []int64{1, 7}, []int{-1, 3}, false},
		{"fewer", s, []int64{1}, []int{1}, false},
		{"fewer numbers", s, []int64{1}, []int{1, 3}, false},
		{"fewer sites", s, []int64{1, 7}, []int{1}, false},
		{"more", s, []int64{1, 7, 0}, []int{1, 3, 0}, false},
		{"more numbers", s, []int64{1, 7, 0}, []int{1, 3}, false},
		{"more sites", s, []int64{1, 7}, []int{1, 3, 0}, false},
		{"nothing", s, nil, nil, false},
		{"no registers", State{Reached: true}, nil, nil, true},
		{"no registers, a number", State{Reached: true}, []int64{0}, nil, false},
		{"no registers, a site", State{Reached: true}, nil, []int{0}, false},
		{"nobody comes there", State{}, nil, nil, false},
		{"a register without sites", at(of(1), nil), []int64{1}, []int{0}, false},
	} {
		if Has(c.s, c.regs, c.last) != c.want {
			t.Error(c.about)
		}
	}
}

// P13.1: Set, also of a register that there isn't.
func TestSet(t *testing.T) {
	s := at(of(2, 7), []int{1, 4}, []int{3})
	want(t, "the first", Set(s, 0, fact.Any(), 9), at([]fact.Value{fact.Any(), fact.Of(7)}, []int{9}, []int{3}))
	want(t, "the last", Set(s, 1, fact.Of(0), 0), at(of(2, 0), []int{1, 4}, []int{0}))
	for _, r := range []int{-1, 2, 3, math.MinInt, math.MaxInt} {
		want(t, "no such register", Set(s, r, fact.Any(), 9), s)
	}
	for _, r := range []int{-1, 0, 1} {
		want(t, "nobody comes there", Set(State{}, r, fact.Any(), 9), State{})
		want(t, "no registers", Set(State{Reached: true}, r, fact.Any(), 9), State{Reached: true})
	}
}

// P13.1: Branch, also of a register that there isn't.
func TestBranch(t *testing.T) {
	s := at([]fact.Value{from(0, 3), fact.Of(0), fact.Of(-1)}, []int{1, 4}, []int{3}, []int{5})
	left := from(1, 3)
	left.Sign = 5
	want(t, "isn't 0", Branch(s, 0, true), at([]fact.Value{left, fact.Of(0), fact.Of(-1)}, s.Sites...))
	want(t, "is 0", Branch(s, 0, false), at(of(0, 0, -1), s.Sites...))
	want(t, "can't be 0", Branch(s, 1, true), State{})
	want(t, "can be 0 alone", Branch(s, 1, false), s)
	want(t, "can't be anything else", Branch(s, 2, true), s)
	want(t, "must be 0", Branch(s, 2, false), State{})
	for _, yes := range []bool{false, true} {
		for _, r := range []int{-1, 3, 4, math.MinInt, math.MaxInt} {
			want(t, "no such register", Branch(s, r, yes), s)
		}
		for _, r := range []int{-1, 0, 1} {
			want(t, "nobody comes there", Branch(State{}, r, yes), State{})
			want(t, "no registers", Branch(State{Reached: true}, r, yes), State{Reached: true})
		}
	}
	// Of this Value one of the four has nothing each way: nobody goes on.
	lost := fact.Any()
	lost.Known, lost.Sign = known.Of(0), 5
	for _, yes := range []bool{false, true} {
		want(t, "neither", Branch(at([]fact.Value{lost}, []int{0}), 0, yes), State{})
	}
}

// P13.1: Shift.
func TestShift(t *testing.T) {
	s := at(of(2, 7, 0), []int{1, 4}, []int{3}, nil)
	want(t, "on", Shift(s, 10), at(of(2, 7, 0), []int{11, 14}, []int{13}, nil))
	want(t, "back", Shift(Shift(s, 10), -10), s)
	want(t, "not at all", Shift(s, 0), s)
	want(t, "nobody comes there", Shift(State{}, 5), State{})
	want(t, "no registers", Shift(State{Reached: true}, 5), State{Reached: true})
	if !Right(Shift(s, 10), 3, 15) || Right(Shift(s, 10), 3, 14) {
		t.Error("sets below so many")
	}
}

// The counts of States by chance.
const (
	someRegs  = 3
	someSites = 6
)

// someState is one that is Right, of someRegs and someSites; now and then one that isn't Reached.
func someState(source *rand.Rand) State {
	if source.Intn(9) == 0 {
		return State{}
	}
	s := State{Reached: true}
	for range someRegs {
		s.Vals = append(s.Vals, someValue(source))
		var set []int
		for x := range someSites {
			if source.Intn(3) == 0 {
				set = append(set, x)
			}
		}
		s.Sites = append(s.Sites, set)
	}
	return s
}

// someValue is Right, also such that no number has.
func someValue(source *rand.Rand) fact.Value {
	v := fact.Of(int64(source.Intn(5) - 2))
	if source.Intn(2) == 0 {
		v = fact.Join(v, fact.Of(int64(source.Intn(5)-2)))
	}
	if source.Intn(3) == 0 {
		v.Sign = 1 + source.Intn(7)
	}
	return v
}

// someFrame is what registers may be by chance: numbers, and sites.
func someFrame(source *rand.Rand) (regs []int64, last []int) {
	for range someRegs {
		regs = append(regs, int64(source.Intn(7)-3))
		last = append(last, source.Intn(someSites))
	}
	return regs, last
}

// around is a State that has a frame, and by chance more.
func around(source *rand.Rand, regs []int64, last []int) State {
	var sites [][]int
	for _, x := range last {
		sites = append(sites, []int{x})
	}
	return Join(at(of(regs...), sites...), someState(source))
}

// P13.2: Join hangs on no order, has all that both have, and is within all that has both.
func TestJoinIsTheBest(t *testing.T) {
	source := rand.New(rand.NewSource(1))
	for range 4000 {
		a, b, c := someState(source), someState(source), someState(source)
		join := Join(a, b)
		want(t, "order", Join(b, a), join)
		want(t, "grouping", Join(join, c), Join(a, Join(b, c)))
		if !Within(a, join) || !Within(b, join) || !Within(join, Widen(a, b)) || !Right(join, someRegs, someSites) {
			t.Error(a, b, join)
		}
		if greater := Join(c, join); !Within(a, greater) || !Within(b, greater) || !Within(join, greater) {
			t.Error(a, b, c)
		}
		if Within(a, c) && Within(b, c) && !Within(join, c) {
			t.Error(a, b, c)
		}
		regs, last := someFrame(source)
		if s := around(source, regs, last); !Has(s, regs, last) || !Has(Join(a, s), regs, last) || !Has(Widen(a, s), regs, last) {
			t.Error(a, s, regs, last)
		}
	}
}

// P13.2: what has both is told part by part, so that a Join that tells too little is found.
func TestJoinIsNoMoreThanItMustBe(t *testing.T) {
	source := rand.New(rand.NewSource(2))
	for range 2000 {
		a, b := someState(source), someState(source)
		if !a.Reached || !b.Reached {
			continue
		}
		bound := Copy(a)
		for r := range bound.Vals {
			bound.Vals[r] = fact.Join(a.Vals[r], b.Vals[r])
			bound.Sites[r] = append(bound.Sites[r], b.Sites[r]...)
			slices.Sort(bound.Sites[r])
			bound.Sites[r] = slices.Compact(bound.Sites[r])
		}
		if !Within(a, bound) || !Within(b, bound) || !Within(Join(a, b), bound) {
			t.Error(a, b)
		}
	}
}

// P13.3: of more as much is left behind Set, Branch and Shift, or more.
func TestMoreLeavesMore(t *testing.T) {
	source := rand.New(rand.NewSource(3))
	for range 4000 {
		a := someState(source)
		more := Join(a, someState(source))
		v := someValue(source)
		wider := fact.Join(v, someValue(source))
		for r := -1; r <= someRegs; r++ {
			if !Within(Set(a, r, v, 4), Set(more, r, wider, 4)) {
				t.Error("Set", a, more, r, v, wider)
			}
			for _, yes := range []bool{false, true} {
				if !Within(Branch(a, r, yes), Branch(more, r, yes)) {
					t.Error("Branch", a, more, r, yes)
				}
			}
		}
		for n := range 3 {
			if !Within(Shift(a, n), Shift(more, n)) {
				t.Error("Shift", a, more, n)
			}
		}
	}
}

// P3: what a register gets, and where it goes on, is told.
func TestFramesStayIn(t *testing.T) {
	source := rand.New(rand.NewSource(4))
	for range 6000 {
		regs, last := someFrame(source)
		s := around(source, regs, last)
		r := source.Intn(someRegs)
		if !Has(Branch(s, r, regs[r] != 0), regs, last) {
			t.Error("Branch", s, r, regs, last)
		}
		n := int64(source.Intn(7) - 3)
		set := Set(s, r, fact.Of(n), 5)
		regs[r], last[r] = n, 5
		if !Has(set, regs, last) {
			t.Error("Set", s, r, n, regs, last)
		}
		for i := range last {
			last[i] += 7
		}
		if !Has(Shift(set, 7), regs, last) {
			t.Error("Shift", set, regs, last)
		}
	}
}

// changes counts how often s changes, widened by one after the other.
func changes(s State, by []State) int {
	n := 0
	for _, b := range by {
		was := s
		s = Widen(s, b)
		if text(s) != text(was) {
			n++
		}
	}
	return n
}

// P13.4: one change for being Reached, and for each register six of its Value and one for each site.
func TestWidenAsOftenAsMayBe(t *testing.T) {
	const regs, sites = 2, 3
	first := at(of(0, 0), nil, nil)
	by := []State{first}
	for r := range regs {
		for x := range sites {
			b := Copy(first)
			b.Sites[r] = []int{x}
			by = append(by, b)
		}
		for _, change := range []func(v *fact.Value){
			func(v *fact.Value) { v.Sign = 4 },
			func(v *fact.Value) { v.Sign = 1 },
			func(v *fact.Value) { v.Known.N = 1 },
			func(v *fact.Value) { v.Span.Hi = 1 },
			func(v *fact.Value) { v.Span.Lo = -1 },
			func(v *fact.Value) { v.Parity = 2 },
		} {
			b := Copy(first)
			change(&b.Vals[r])
			by = append(by, b)
		}
	}
	if n := changes(State{}, by); n != 1+regs*(6+sites) {
		t.Error(n)
	}
	// Behind all that nothing changes any more.
	if n := changes(State{}, append(by, by...)); n != 1+regs*(6+sites) {
		t.Error(n)
	}
}

// P13.4: by whatever comes.
func TestWidenAgainAndAgain(t *testing.T) {
	source := rand.New(rand.NewSource(5))
	for range 100 {
		var by []State
		for range 300 {
			s := someState(source)
			for r := range s.Vals {
				if source.Intn(2) == 0 {
					s.Vals[r] = fact.Of(int64(source.Uint64() >> source.Intn(64)))
				}
			}
			by = append(by, s)
		}
		if n := changes(someState(source), by); n > 1+someRegs*(6+someSites) {
			t.Error(n)
		}
	}
}

// roomy is equal to s, but each of its lists has spare room, in which something stands.
func roomy(s State) State {
	c := State{Reached: s.Reached, Vals: append(slices.Clone(s.Vals), of(77, 78)...)[:len(s.Vals)]}
	for _, set := range s.Sites {
		c.Sites = append(c.Sites, append(slices.Clone(set), 77, 78)[:len(set)])
	}
	c.Sites = append(c.Sites, []int{79}, []int{80})[:len(s.Sites)]
	return c
}

// whole is all of a State, with its spare room.
func whole(s State) string {
	all := fmt.Sprint(s.Reached, s.Vals[:cap(s.Vals)], s.Sites[:cap(s.Sites)])
	for _, set := range s.Sites {
		all += fmt.Sprint(set[:cap(set)])
	}
	return all
}

// spoil changes all that is in a State, with its spare room.
func spoil(s State) {
	for i := range s.Vals[:cap(s.Vals)] {
		s.Vals[:cap(s.Vals)][i] = fact.Of(-99)
	}
	for _, set := range s.Sites {
		for i := range set[:cap(set)] {
			set[:cap(set)][i] = -99
		}
	}
	for i := range s.Sites[:cap(s.Sites)] {
		s.Sites[:cap(s.Sites)][i] = []int{-98}
	}
}

// calls are all that answer a State.
var calls = map[string]func(a, b State) State{
	"None":         func(a, b State) State { return None() },
	"Begin":        func(a, b State) State { return Begin(3, a.Vals, 2) },
	"Begin of one": func(a, b State) State { return Begin(1, a.Vals, 2) },
	"Copy":         func(a, b State) State { return Copy(a) },
	"Join":         Join,
	"Widen":        Widen,
	"Set":          func(a, b State) State { return Set(a, 1, fact.Any(), 3) },
	"Set of none":  func(a, b State) State { return Set(a, 5, fact.Any(), 3) },
	"Branch yes":   func(a, b State) State { return Branch(a, 0, true) },
	"Branch no":    func(a, b State) State { return Branch(a, 0, false) },
	"Branch none":  func(a, b State) State { return Branch(a, 5, true) },
	"Shift":        func(a, b State) State { return Shift(a, 4) },
	"Shift by 0":   func(a, b State) State { return Shift(a, 0) },
	"asked": func(a, b State) State {
		Right(a, 2, 9)
		Equal(a, b)
		Within(a, b)
		Has(a, []int64{0, 1}, []int{1, 3})
		return State{}
	},
}

// P13.5: what is handed in isn't changed or kept; answers are new memory.
func TestMemory(t *testing.T) {
	two := at([]fact.Value{from(0, 3), fact.Of(7)}, []int{1, 4}, []int{3})
	other := at([]fact.Value{from(-2, 1), fact.Of(6)}, []int{2, 4}, []int{3, 8})
	bare := at(of(1, 2), []int{}, []int{5})
	for _, both := range [][2]State{
		{two, other}, {two, two}, {two, {}}, {{}, two}, {{}, {}}, {bare, bare},
		{two, {Reached: true}}, {two, at(of(1), []int{0})},
	} {
		for name, call := range calls {
			a, b := roomy(both[0]), roomy(both[1])
			asBefore := whole(a) + whole(b)
			answer := call(a, b)
			told := text(answer)
			if whole(a)+whole(b) != asBefore {
				t.Error(name, "changed what was handed in", both)
			}
			again := call(a, b)
			spoil(answer)
			if whole(a)+whole(b) != asBefore || text(again) != told {
				t.Error(name, "shares its answer", both)
			}
			spoil(a)
			spoil(b)
			if text(again) != told {
				t.Error(name, "keeps what was handed in", both)
			}
		}
	}
}

// P13.5: no two lists of one answer share memory.
func TestListsAreApart(t *testing.T) {
	set := []int{1, 4, 6}
	shared := at(of(1, 0, 1), set, set, set)
	for name, call := range calls {
		for r := range 3 {
			answer := call(shared, shared)
			if r >= len(answer.Sites) {
				continue
			}
			others := text(call(shared, shared))
			list := answer.Sites[r]
			for i := range list[:cap(list)] {
				list[:cap(list)][i] = -99
			}
			answer.Sites[r] = call(shared, shared).Sites[r]
			if text(answer) != others {
				t.Error(name, r)
			}
		}
	}
}

// P1: of States that aren't Right there is an end.
func TestWrongStatesEnd(t *testing.T) {
	wrong := append(kinds(),
		State{Reached: true, Vals: of(1, 2, 3), Sites: [][]int{{1}}},
		State{Reached: true, Vals: of(1), Sites: [][]int{{1}, {2}, {3}}},
		State{Reached: true, Vals: []fact.Value{{}, {Sign: -1}}, Sites: [][]int{{5, 4, 4, -1}, {math.MaxInt, math.MinInt}}},
		State{Vals: of(1, 2), Sites: [][]int{{1}}},
	)
	for _, a := range wrong {
		for _, b := range wrong {
			for _, call := range calls {
				call(a, b)
			}
		}
		for r := -2; r < 5; r++ {
			Set(a, r, fact.Value{}, math.MinInt)
			Branch(a, r, true)
			Branch(a, r, false)
			Right(a, r, r)
		}
		Shift(a, math.MaxInt)
		Shift(a, math.MinInt)
		Has(a, []int64{1, 2}, []int{1})
	}
	Begin(2, []fact.Value{{}}, math.MaxInt)
	Begin(2, nil, math.MinInt)
}
