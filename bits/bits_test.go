package bits

import (
	"bytes"
	"math"
	"slices"
	"testing"

	"averment/api"
	"averment/fault"
	"averment/wire"
)

// subset is what of universe the bits of mask choose.
func subset(universe []int, mask int) []int {
	var s []int
	for i, x := range universe {
		if mask>>i&1 == 1 {
			s = append(s, x)
		}
	}
	return s
}

func below(n int) []int {
	s := []int{}
	for x := range n {
		s = append(s, x)
	}
	return s
}

// bytesOf lays s in any way, word for word as the document says it.
func bytesOf(n int, s []int, way int) []byte {
	in := map[int]bool{}
	for _, x := range s {
		in[x] = true
	}
	w := wire.New()
	w.Byte(byte(way))
	switch way {
	case Plain:
		for i := 0; i < n; i += 8 {
			weights := 0
			for j := range 8 {
				if in[i+j] {
					weights += 1 << j
				}
			}
			w.Byte(byte(weights))
		}
	case Gaps:
		w.Uint(uint64(len(s)))
		for i, x := range s {
			if i > 0 {
				x -= s[i-1] + 1
			}
			w.Uint(uint64(x))
		}
	case Runs:
		var begins, ends []int
		for _, x := range s {
			if !in[x-1] {
				begins = append(begins, x)
			}
			if !in[x+1] {
				ends = append(ends, x)
			}
		}
		w.Uint(uint64(len(begins)))
		for i, x := range begins {
			if i == 0 {
				w.Uint(uint64(x))
			} else {
				w.Uint(uint64(x - ends[i-1] - 2))
			}
			w.Uint(uint64(ends[i] - x))
		}
	}
	return w.Bytes()
}

// best is the way with the fewest bytes, of several the lowest.
func best(n int, s []int) int {
	way := Plain
	for _, other := range []int{Gaps, Runs} {
		if len(bytesOf(n, s, other)) < len(bytesOf(n, s, way)) {
			way = other
		}
	}
	return way
}

type given struct {
	n int
	s []int
}

// some are sets of many kinds: all of the small ones, and greater ones with gaps and runs of all lengths.
func some() []given {
	var list []given
	for n := range 12 {
		for mask := range 1 << n {
			list = append(list, given{n, subset(below(n), mask)})
		}
	}
	for _, n := range []int{16, 17, 24, 63, 64, 65, 128, 129, 130, 255, 256, 300, 1000, 4095, 4096} {
		list = append(list, given{n, nil}, given{n, []int{0}}, given{n, []int{n - 1}}, given{n, below(n)}, given{n, below(n)[1:]})
		seed := uint32(n)
		for _, gap := range []uint32{1, 2, 5, 30, 127, 128, 129, 200, 700} {
			for _, long := range []uint32{1, 2, 4, 40, 130, 600} {
				list = append(list, given{n, mixed(n, gap, long, &seed)})
			}
		}
	}
	return list
}

// mixed is a set below n with gaps up to gap and runs up to long, chosen by seed.
func mixed(n int, gap, long uint32, seed *uint32) []int {
	next := func(most uint32) int {
		*seed = *seed*1664525 + 1013904223
		return int(*seed >> 8 % most)
	}
	var s []int
	for x := next(gap); x < n; x += 1 + next(gap) {
		for range 1 + next(long) {
			if x < n {
				s = append(s, x)
			}
			x++
		}
	}
	return s
}

// P3.1
func TestRight(t *testing.T) {
	for _, c := range []struct {
		n    int
		s    []int
		want bool
	}{
		{0, nil, true}, {0, []int{}, true}, {0, []int{0}, false}, {1, []int{0}, true}, {1, []int{1}, false}, {1, []int{-1}, false},
		{9, []int{0, 4, 8}, true}, {9, []int{0, 4, 9}, false}, {9, []int{-1, 4}, false}, {9, []int{4, 4}, false}, {9, []int{4, 3}, false},
		{9, []int{0, 0}, false}, {9, below(9), true}, {9, below(10), false},
		{4096, nil, true}, {4096, []int{4095}, true}, {4096, []int{4096}, false}, {4096, below(4096), true},
		{4097, nil, false}, {4097, []int{1}, false}, {-1, nil, false}, {-1, []int{-2}, false},
		{math.MinInt, nil, false}, {math.MaxInt, nil, false}, {math.MaxInt, []int{1}, false},
		{9, []int{math.MinInt}, false}, {9, []int{1, math.MaxInt}, false}, {9, []int{math.MaxInt, 1}, false},
	} {
		if got := Right(c.n, c.s); got != c.want {
			t.Errorf("Right(%d, %v) = %v", c.n, c.s, got)
		}
	}
}

// P3.1
func TestSetsOfTwo(t *testing.T) {
	universe := []int{math.MinInt, -3, 0, 1, 4096, math.MaxInt}
	for i := range 1 << len(universe) {
		a := subset(universe, i)
		for j := range 1 << len(universe) {
			b := subset(universe, j)
			if got := Union(a, b); !slices.Equal(got, subset(universe, i|j)) {
				t.Errorf("Union(%v, %v) = %v", a, b, got)
			}
			if got := Minus(a, b); !slices.Equal(got, subset(universe, i&^j)) {
				t.Errorf("Minus(%v, %v) = %v", a, b, got)
			}
			if got := Within(a, b); got != (i&^j == 0) {
				t.Errorf("Within(%v, %v) = %v", a, b, got)
			}
			if got := Same(a, b); got != (i == j) {
				t.Errorf("Same(%v, %v) = %v", a, b, got)
			}
		}
		for j, x := range universe {
			if got := Has(a, x); got != (i>>j&1 == 1) {
				t.Errorf("Has(%v, %d) = %v", a, x, got)
			}
		}
		if Has(a, 2) || Has(a, -2) || Has(a, 5000) {
			t.Error("Has what isn't there", a)
		}
	}
	if !Same(nil, []int{}) || !Same([]int{}, nil) || !Within(nil, []int{}) || !Within([]int{}, nil) {
		t.Error("nil and empty are one")
	}
}

// P3.1
func TestListsThatDoNotRise(t *testing.T) {
	lists := [][]int{nil, {3, 1, 2}, {1, 1}, {5, 4, 3, 2, 1}, {math.MaxInt, math.MinInt}, {2, 2, 1, 1}}
	for _, a := range lists {
		for _, b := range lists {
			Union(a, b)
			Minus(a, b)
			Within(a, b)
			Same(a, b)
			Has(a, len(b))
			Size(len(b), a, len(b)-2)
		}
	}
}

// P3.1, P3.3
func TestSizesAndWays(t *testing.T) {
	for _, g := range some() {
		for way := Plain; way <= Runs; way++ {
			if got, want := Size(g.n, g.s, way), len(bytesOf(g.n, g.s, way)); got != want {
				t.Fatalf("Size(%d, %v, %d) = %d, want %d", g.n, g.s, way, got, want)
			}
			if Size(g.n, g.s, way) < Size(g.n, g.s, Way(g.n, g.s)) {
				t.Fatalf("%v below %d has fewer bytes by %d", g.s, g.n, way)
			}
		}
		if got, want := Way(g.n, g.s), best(g.n, g.s); got != want {
			t.Fatalf("Way(%d, %v) = %d, want %d", g.n, g.s, got, want)
		}
	}
}

// P3.1
func TestNoSize(t *testing.T) {
	for _, way := range []int{-1, 3, 4, 256, math.MinInt, math.MaxInt} {
		if Size(8, []int{1}, way) != -1 {
			t.Error("a way that is none", way)
		}
	}
	for _, g := range []given{{-1, nil}, {4097, nil}, {8, []int{8}}, {8, []int{-1}}, {8, []int{1, 1}}, {8, []int{2, 1}}, {0, []int{0}}, {math.MaxInt, nil}, {math.MinInt, nil}} {
		for way := -1; way <= 3; way++ {
			if Size(g.n, g.s, way) != -1 {
				t.Error("Size of what isn't Right", g, way)
			}
		}
		if Way(g.n, g.s) != -1 {
			t.Error("Way of what isn't Right", g)
		}
		w := wire.New()
		w.Byte(7)
		if e := Write(w, g.n, g.s); fault.Text(e) != "argument" || string(w.Bytes()) != "\x07" {
			t.Error("Write of what isn't Right", g, fault.Text(e), w.Bytes())
		}
		if e := Write(nil, g.n, g.s); fault.Text(e) != "argument" {
			t.Error("Write of what isn't Right to no Writer", g, fault.Text(e))
		}
	}
	if e := Write(nil, 8, []int{1}); e != nil {
		t.Error("a nil Writer lays nothing", e)
	}
}

// P3.1, P3.3
func TestWritten(t *testing.T) {
	for _, c := range []struct {
		n    int
		s    []int
		want string
	}{
		{16, []int{0, 1, 2, 3}, "\x00\x0f\x00"},
		{16, nil, "\x01\x00"},
		{0, nil, "\x00"},
		{8, nil, "\x00\x00"}, // all three ways have two
		{9, nil, "\x01\x00"}, // Gaps and Runs have two
		{16, []int{5}, "\x00\x20\x00"},
		{24, []int{5}, "\x01\x01\x05"},
		{32, []int{30, 31}, "\x01\x02\x1e\x00"}, // Gaps and Runs have four
		{64, []int{10, 11, 12, 13, 14}, "\x02\x01\x0a\x04"},
		{64, []int{1, 2, 3, 4, 6, 7, 8, 9}, "\x02\x02\x01\x03\x00\x03"},
		{12, below(12), "\x00\xff\x0f"},
		{4096, []int{4095}, "\x01\x01\xff\x1f"},
		{4096, below(4096), "\x02\x01\x00\xff\x1f"},
		{300, []int{0, 129, 259}, "\x01\x03\x00\x80\x01\x81\x01"},
	} {
		w := wire.New()
		w.Byte(9)
		e := Write(w, c.n, c.s)
		if e != nil || string(w.Bytes()) != "\x09"+c.want {
			t.Errorf("%v below %d: %x, %v", c.s, c.n, w.Bytes(), e)
		}
	}
}

// P3.2
func TestWrittenIsTakenAgain(t *testing.T) {
	w := wire.New()
	for _, g := range some() {
		if e := Write(w, g.n, g.s); e != nil {
			t.Fatal(g, e)
		}
	}
	r := wire.Read(w.Bytes())
	for _, g := range some() {
		s, e := Read(r, g.n)
		if e != nil || !slices.Equal(s, g.s) {
			t.Fatal(g, s, e)
		}
	}
	if r.End() != nil {
		t.Error("bytes are left")
	}
}

// P3.1, P3.2, P3.3
func TestAnotherWayThanItsOwn(t *testing.T) {
	for _, g := range some() {
		for way := Plain; way <= Runs; way++ {
			b := bytesOf(g.n, g.s, way)
			r := wire.Read(b)
			s, e := Read(r, g.n)
			if way == best(g.n, g.s) {
				if e != nil || !slices.Equal(s, g.s) || r.At() != len(b) {
					t.Fatalf("%x below %d: %v, %s", b, g.n, s, fault.Text(e))
				}
			} else if len(s) != 0 || fault.Text(e) != "0 form" || r.At() != 0 {
				t.Fatalf("%x below %d: %v, %s", b, g.n, s, fault.Text(e))
			}
		}
	}
}

// P3.2
func TestNoOtherBytesAreThatSet(t *testing.T) {
	letters := []byte{0, 1, 2, 3, 4, 7, 8, 9, 15, 16, 17, 31, 0x7f, 0x80, 0x81, 0xff}
	for _, n := range []int{0, 1, 2, 7, 8, 9, 16, 17, 18, 25, 32, 33, 40, 130} {
		for i := range 1 << 18 {
			b := []byte{byte(i & 3), letters[i>>2&15], letters[i>>6&15], letters[i>>10&15], letters[i>>14&15]}
			r := wire.Read(b)
			s, e := Read(r, n)
			if e != nil {
				if len(s) != 0 || r.At() != 0 {
					t.Fatalf("%x below %d: something was taken beside %v", b, n, e)
				}
				continue
			}
			if !Right(n, s) {
				t.Fatalf("%x below %d: %v", b, n, s)
			}
			if own := bytesOf(n, s, best(n, s)); !bytes.Equal(own, b[:r.At()]) {
				t.Fatalf("%x below %d is taken as %v, which has %x", b[:r.At()], n, s, own)
			}
		}
	}
}

// refused reads b behind two other bytes, so that the place isn't 0.
func refused(t *testing.T, n int, b, want string) {
	t.Helper()
	r := wire.Read([]byte("\x05\x06" + b))
	r.Raw(2)
	s, e := Read(r, n)
	if len(s) != 0 || fault.Text(e) != want {
		t.Errorf("%x below %d: %v, %s, want %s", b, n, s, fault.Text(e), want)
	}
	if r.At() != 2 || r.Left() != len(b) {
		t.Errorf("%x below %d: something was taken", b, n)
	}
}

// P3.1
func TestReadErrors(t *testing.T) {
	for _, c := range []struct {
		n       int
		b, want string
	}{
		{-1, "\x00", "2 argument"}, {-1, "", "2 argument"}, {4097, "\x01\x00", "2 argument"}, {4097, "\x09", "2 argument"},
		{math.MinInt, "\x01\x00", "2 argument"}, {math.MaxInt, "\x01\x00", "2 argument"},
		{16, "", "2 short"}, {0, "", "2 short"}, {16, "\x03", "2 tag"}, {16, "\x80\x00", "2 tag"}, {16, "\xff", "2 tag"}, {0, "\x03", "2 tag"},
		{16, "\x00", "2 short"}, {16, "\x00\x0f", "2 short"}, {17, "\x00\x0f\x0f", "2 short"},
		{12, "\x00\xff\x1f", "2 form"}, {12, "\x00\xff\x8f", "2 form"}, {1, "\x00\x02", "2 form"}, {7, "\x00\x80", "2 form"},
		{16, "\x00\x00\x00", "2 form"}, {16, "\x01\x01\x05", "2 form"}, {8, "\x01\x00", "2 form"}, {8, "\x02\x00", "2 form"}, {9, "\x02\x00", "2 form"},
		{0, "\x01\x00", "2 form"}, {0, "\x02\x00", "2 form"}, {0, "\x01\x01", "2 range"}, {0, "\x02\x01", "2 range"},
		{0, "\x01", "2 short"}, {0, "\x02", "2 short"}, {0, "\x01\x80\x00", "2 form"}, {0, "\x02\x81\x00", "2 form"},
	} {
		refused(t, c.n, c.b, c.want)
	}
}

// P3.1
func TestReadErrorsOfGaps(t *testing.T) {
	nines := "\xff\xff\xff\xff\xff\xff\xff\xff\xff"
	for _, c := range []struct {
		n       int
		b, want string
	}{
		{32, "\x01", "2 short"}, {32, "\x01\x80", "2 short"}, {32, "\x01\x20", "2 short"}, {32, "\x01\x01", "2 short"}, {32, "\x01\x02\x1e", "2 short"}, {32, "\x01\x02\x1e\x80", "2 short"},
		{32, "\x01\x21", "2 range"}, {32, "\x01\x21\x80\x00", "2 range"}, {32, "\x01" + nines + "\x01", "2 range"},
		{32, "\x01\x80\x00", "2 form"}, {32, "\x01\xa1\x00", "2 form"}, {32, "\x01" + nines + "\x02", "2 form"}, {32, "\x01" + nines + "\xff", "2 form"},
		{32, "\x01\x01\x20", "2 range"}, {32, "\x01\x02\x20", "2 range"}, {32, "\x01\x01\xff\x01", "2 range"}, {32, "\x01\x01" + nines + "\x01", "2 range"},
		{32, "\x01\x01\xff\x00", "2 form"}, {32, "\x01\x01\x85\x00", "2 form"},
		{32, "\x01\x02\x1e\x01", "2 range"}, {32, "\x01\x02\x1e\x80\x00", "2 form"}, {32, "\x01\x02\x00\x1f", "2 range"},
		// A further number can't be below n, whatever its bytes are.
		{32, "\x01\x02\x1f", "2 range"}, {32, "\x01\x02\x1f\x00", "2 range"}, {32, "\x01\x02\x1f\x80\x00", "2 range"}, {32, "\x01\x02\x1f\x80", "2 range"},
		{32, "\x01\x03\x1e\x00", "2 range"}, {32, "\x01\x03\x1e\x00\x80\x00", "2 range"},
		// It still can, but for the one behind it, so that its own bytes come first.
		{32, "\x01\x03\x1e", "2 short"}, {32, "\x01\x03\x1e\x80\x00", "2 form"}, {32, "\x01\x20\x05", "2 short"},
		{4096, "\x01\x81\x20", "2 range"}, {4096, "\x01\x80\x20", "2 short"}, {4096, "\x01\x01\x80\x20", "2 range"},
	} {
		refused(t, c.n, c.b, c.want)
	}
}

// P3.1
func TestReadErrorsOfRuns(t *testing.T) {
	nines := "\xff\xff\xff\xff\xff\xff\xff\xff\xff"
	for _, c := range []struct {
		n       int
		b, want string
	}{
		{64, "\x02", "2 short"}, {64, "\x02\x80", "2 short"}, {64, "\x02\x40", "2 short"}, {64, "\x02\x01", "2 short"}, {64, "\x02\x01\x3f", "2 short"}, {64, "\x02\x01\x00\x80", "2 short"},
		{64, "\x02\x41", "2 range"}, {64, "\x02\x41\x80\x00", "2 range"}, {64, "\x02" + nines + "\x01", "2 range"},
		{64, "\x02\x80\x00", "2 form"}, {64, "\x02\xc1\x00", "2 form"}, {64, "\x02" + nines + "\x02", "2 form"},
		{64, "\x02\x01\x40", "2 range"}, {64, "\x02\x01\x40\x80\x00", "2 range"}, {64, "\x02\x01" + nines + "\x01", "2 range"}, {64, "\x02\x01\xc0\x00", "2 form"},
		{64, "\x02\x01\x3f\x01", "2 range"}, {64, "\x02\x01\x00\x40", "2 range"}, {64, "\x02\x01\x0a\x36", "2 range"}, {64, "\x02\x01\x0a" + nines + "\x01", "2 range"},
		{64, "\x02\x01\x0a\xb6\x00", "2 form"}, {64, "\x02\x01\x0a" + nines + "\x02", "2 form"}, {64, "\x02\x01\x3f\x00", "2 form"},
		{64, "\x02\x02\x00\x3d", "2 short"}, {64, "\x02\x02\x00\x3d\x80\x00", "2 form"}, {64, "\x02\x02\x00\x3d\x01", "2 range"}, {64, "\x02\x02\x00\x3d\x00", "2 short"}, {64, "\x02\x02\x00\x3d\x00\x01", "2 range"},
		// A further run can't be below n, whatever its bytes are.
		{64, "\x02\x02\x00\x3e", "2 range"}, {64, "\x02\x02\x00\x3e\x80\x00", "2 range"}, {64, "\x02\x02\x00\x3f", "2 range"}, {64, "\x02\x02\x00\x3f\x80", "2 range"}, {64, "\x02\x02\x3f\x00", "2 range"},
		{64, "\x02\x03\x00\x3d\x00\x00", "2 range"}, {64, "\x02\x03\x00\x3d\x00\x00\x80\x00", "2 range"},
		// It still can, but for the one behind it.
		{64, "\x02\x03\x00\x3d", "2 short"}, {64, "\x02\x03\x00\x3d\x80\x00", "2 form"},
		{1, "\x02\x01\x00\x00", "2 form"}, {1, "\x02\x01\x00\x01", "2 range"}, {2, "\x02\x02\x00\x00", "2 range"},
		{4096, "\x02\x81\x20", "2 range"}, {4096, "\x02\x01\x00\x80\x20", "2 range"}, {4096, "\x02\x01\x80\x20", "2 range"},
	} {
		refused(t, c.n, c.b, c.want)
	}
}

// P3.1
func TestReadAtTheEdges(t *testing.T) {
	for _, c := range []struct {
		n    int
		b    string
		want []int
	}{
		{0, "\x00", nil}, {8, "\x00\x00", nil}, {16, "\x01\x00", nil}, {12, "\x00\xff\x0f", below(12)}, {8, "\x00\x80", []int{7}},
		{32, "\x01\x01\x1f", []int{31}}, {32, "\x01\x02\x1e\x00", []int{30, 31}}, {32, "\x01\x02\x00\x1e", []int{0, 31}},
		{64, "\x02\x01\x00\x3f", below(64)}, {64, "\x02\x02\x00\x3d\x00\x00", append(below(62), 63)},
		{4096, "\x01\x01\xff\x1f", []int{4095}}, {4096, "\x02\x01\x00\xff\x1f", below(4096)},
	} {
		r := wire.Read([]byte(c.b + "\xff"))
		s, e := Read(r, c.n)
		if e != nil || !slices.Equal(s, c.want) || r.At() != len(c.b) {
			t.Errorf("%x below %d: %v, %s", c.b, c.n, s, fault.Text(e))
		}
	}
}

// P3.1
func TestReadOfNoReader(t *testing.T) {
	for _, n := range []int{-1, 0, 8, 4096, 4097} {
		if s, e := Read(nil, n); len(s) != 0 || fault.Text(e) != "0 argument" {
			t.Error(n, s, fault.Text(e))
		}
	}
}

// P3.1: the error is at the place in the whole, and a set ends with its section.
func TestReadWithinSection(t *testing.T) {
	w := wire.New()
	w.Byte(1)
	w.Section([]byte{Gaps, 1})
	w.Raw([]byte{5})
	r := wire.Read(w.Bytes())
	r.Byte()
	in, e := r.Section()
	if e != nil {
		t.Fatal(e)
	}
	if s, e := Read(in, 24); len(s) != 0 || !fault.Is(e, api.ErrShort) || !slices.Equal(fault.Path(e), []int{2}) || in.At() != 2 {
		t.Error(s, fault.Text(e))
	}
}

// spoil writes over a list, and over the room behind it.
func spoil(s []int) {
	s = s[:cap(s)]
	for i := range s {
		s[i] = -77
	}
}

// P3.4
func TestSetsAreNewMemory(t *testing.T) {
	roomA, roomB := []int{1, 3, 5, 99, 98}, []int{2, 3, 97, 96}
	lists := [][]int{nil, roomA[:3], roomB[:2]}
	for _, a := range lists {
		for _, b := range lists {
			spoil(Union(a, b))
			spoil(Minus(a, b))
			Within(a, b)
			Same(a, b)
			Has(a, 3)
		}
	}
	for _, a := range lists {
		for way := Plain; way <= Runs; way++ {
			Right(8, a)
			Size(8, a, way)
			Way(8, a)
			Write(wire.New(), 8, a)
		}
	}
	if !slices.Equal(roomA, []int{1, 3, 5, 99, 98}) || !slices.Equal(roomB, []int{2, 3, 97, 96}) {
		t.Error("what was handed in is changed", roomA, roomB)
	}
}

// P3.4
func TestTakenIsNewMemory(t *testing.T) {
	for _, n := range []int{8, 64, 300} {
		for _, s := range [][]int{{1, 2, 3}, {5}, {0, 1, 2, 3, 4, 5, 6, 7}} {
			room := slices.Clone(s)
			w := wire.New()
			Write(w, n, room)
			spoil(room)
			r := wire.Read(w.Bytes())
			other := r.Copy()
			first, e := Read(r, n)
			if e != nil || !slices.Equal(first, s) {
				t.Fatal(first, e)
			}
			spoil(first)
			if again, e := Read(other, n); e != nil || !slices.Equal(again, s) {
				t.Error(again, e)
			}
		}
	}
}
