// Package bits is layer 3: sets of small numbers, and their bytes: see shared/doc/03-bits.md.
package bits

import (
	"slices"

	"averment/api"
	"averment/fault"
	"averment/wire"
)

// The ways in which a set is laid.
const (
	Plain = 0
	Gaps  = 1
	Runs  = 2
)

// Right tells whether s is a set below n.
func Right(n int, s []int) bool {
	if !bound(n) {
		return false
	}
	least := 0
	for _, x := range s {
		if x < least || x >= n {
			return false
		}
		least = x + 1
	}
	return true
}

// bound tells whether there are sets below n.
func bound(n int) bool { return n >= 0 && n <= api.MaxSet }

// Union is what is in either.
func Union(a, b []int) []int {
	s := make([]int, 0, len(a)+len(b))
	for len(a) > 0 && len(b) > 0 {
		x := min(a[0], b[0])
		if a[0] == x {
			a = a[1:]
		}
		if b[0] == x {
			b = b[1:]
		}
		s = append(s, x)
	}
	s = append(s, a...)
	return append(s, b...)
}

// Minus is what is in a, and not in b.
func Minus(a, b []int) []int {
	var s []int
	for _, x := range a {
		b = from(b, x)
		if len(b) == 0 || b[0] != x {
			s = append(s, x)
		}
	}
	return s
}

// Within tells whether all of a is in b.
func Within(a, b []int) bool {
	for _, x := range a {
		b = from(b, x)
		if len(b) == 0 || b[0] != x {
			return false
		}
	}
	return true
}

// from is what of s isn't below x.
func from(s []int, x int) []int {
	for len(s) > 0 && s[0] < x {
		s = s[1:]
	}
	return s
}

// Same tells whether both are one set.
func Same(a, b []int) bool { return slices.Equal(a, b) }

// Has tells whether x is in a.
func Has(a []int, x int) bool {
	_, found := slices.BinarySearch(a, x)
	return found
}

// Size tells how many bytes s below n has, laid in that way: -1, if it can't be.
func Size(n int, s []int, way int) int {
	if !Right(n, s) {
		return -1
	}
	switch way {
	case Plain:
		return 1 + plainSize(n)
	case Gaps:
		return 1 + width(gapNumbers(s))
	case Runs:
		return 1 + width(runNumbers(s))
	}
	return -1
}

// plainSize is how many bytes are begun by n bits.
func plainSize(n int) int { return (n + 7) / 8 }

// width is how many bytes layer 2 has for numbers.
func width(numbers []uint64) int {
	size := 0
	for _, x := range numbers {
		size++
		for x >= 1<<7 {
			x >>= 7
			size++
		}
	}
	return size
}

// gapNumbers are the numbers that stand for s as Gaps.
func gapNumbers(s []int) []uint64 {
	numbers := []uint64{uint64(len(s))}
	least := 0
	for _, x := range s {
		numbers = append(numbers, uint64(x-least))
		least = x + 1
	}
	return numbers
}

// runNumbers are the numbers that stand for s as Runs.
func runNumbers(s []int) []uint64 {
	numbers := []uint64{0}
	least := 0
	for len(s) > 0 {
		long := run(s)
		numbers[0]++
		numbers = append(numbers, uint64(s[0]-least), uint64(long-1))
		// The number next to a run isn't in the set, or it would be of the run.
		least = s[0] + long + 1
		s = s[long:]
	}
	return numbers
}

// run is how many numbers at the beginning of s, which has one, stand side by side.
func run(s []int) int {
	long := 1
	for long < len(s) && s[long] == s[0]+long {
		long++
	}
	return long
}

// Way tells in which way s below n has the fewest bytes, of several the lowest: -1, if s isn't Right.
func Way(n int, s []int) int {
	if !Right(n, s) {
		return -1
	}
	best, least := Plain, Size(n, s, Plain)
	for way := Gaps; way <= Runs; way++ {
		if size := Size(n, s, way); size < least {
			best, least = way, size
		}
	}
	return best
}

// Write lays s below n in its Way.
func Write(w *wire.Writer, n int, s []int) error {
	way := Way(n, s)
	if way < 0 {
		return api.ErrArg
	}
	w.Byte(byte(way))
	switch way {
	case Plain:
		w.Raw(plainBytes(n, s))
	case Gaps:
		layNumbers(w, gapNumbers(s))
	case Runs:
		layNumbers(w, runNumbers(s))
	}
	return nil
}

// plainBytes are the bytes that stand for s as Plain.
func plainBytes(n int, s []int) []byte {
	b := make([]byte, plainSize(n))
	for _, x := range s {
		b[x/8] |= 1 << (x % 8)
	}
	return b
}

// layNumbers lays numbers one behind the other.
func layNumbers(w *wire.Writer, numbers []uint64) {
	for _, x := range numbers {
		w.Uint(x)
	}
}

// Read takes a set below n.
func Read(r *wire.Reader, n int) ([]int, error) {
	if r == nil || !bound(n) {
		return nil, fault.At(api.ErrArg, r.At())
	}
	// With an error nothing is taken, so that it is tried on a copy.
	ahead := r.Copy()
	s, e := take(ahead, n)
	if e != nil {
		return nil, fault.At(fault.Kind(e), r.At())
	}
	if _, e := r.Raw(ahead.At() - r.At()); e != nil {
		return nil, e
	}
	return s, nil
}

// take takes a set below n; its errors may be at places of their own.
func take(r *wire.Reader, n int) ([]int, error) {
	way, e := r.Byte()
	if e != nil {
		return nil, e
	}
	var s []int
	switch way {
	case Plain:
		s, e = takePlain(r, n)
	case Gaps:
		s, e = takeGaps(r, n)
	case Runs:
		s, e = takeRuns(r, n)
	default:
		return nil, api.ErrTag
	}
	if e != nil {
		return nil, e
	}
	if Way(n, s) != int(way) {
		return nil, api.ErrForm
	}
	return s, nil
}

// takePlain takes what stands behind the way Plain.
func takePlain(r *wire.Reader, n int) ([]int, error) {
	b, e := r.Raw(plainSize(n))
	if e != nil {
		return nil, e
	}
	var s []int
	for x := range 8 * len(b) {
		if b[x/8]>>(x%8)&1 == 0 {
			continue
		}
		if x >= n {
			return nil, api.ErrForm
		}
		s = append(s, x)
	}
	return s, nil
}

// takeGaps takes what stands behind the way Gaps.
func takeGaps(r *wire.Reader, n int) ([]int, error) {
	count, e := r.Uint(uint64(n))
	if e != nil {
		return nil, e
	}
	var s []int
	least := 0
	for range count {
		x, e := takeBelow(r, least, n)
		if e != nil {
			return nil, e
		}
		s = append(s, x)
		least = x + 1
	}
	return s, nil
}

// takeRuns takes what stands behind the way Runs.
func takeRuns(r *wire.Reader, n int) ([]int, error) {
	count, e := r.Uint(uint64(n))
	if e != nil {
		return nil, e
	}
	var s []int
	least := 0
	for range count {
		first, e := takeBelow(r, least, n)
		if e != nil {
			return nil, e
		}
		last, e := takeBelow(r, first, n)
		if e != nil {
			return nil, e
		}
		for x := first; x <= last; x++ {
			s = append(s, x)
		}
		least = last + 2
	}
	return s, nil
}

// takeBelow takes how much a number is above least, and tells the number, which must be below n.
func takeBelow(r *wire.Reader, least, n int) (int, error) {
	// No number can be right any more, so that its bytes don't matter.
	if least >= n {
		return 0, api.ErrRange
	}
	above, e := r.Uint(uint64(n - 1 - least))
	if e != nil {
		return 0, e
	}
	return least + int(above), nil
}
