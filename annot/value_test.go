package annot

import (
	"bytes"
	"encoding/hex"
	"fmt"
	"math"
	"slices"
	"strings"
	"testing"

	"averment/fact"
	"averment/fault"
	"averment/known"
	"averment/span"
	"averment/wire"
)

func unhex(t *testing.T, s string) []byte {
	t.Helper()
	b, e := hex.DecodeString(strings.ReplaceAll(s, " ", ""))
	if e != nil {
		t.Fatal(e)
	}
	return b
}

// valueOf is a Value that tells nothing, changed.
func valueOf(change func(v *fact.Value)) fact.Value {
	v := fact.Any()
	change(&v)
	return v
}

const (
	leastBytes    = "ffffffffffffffffff01"
	greatestBytes = "feffffffffffffffff01"
)

// P18.1: a Value's bytes.
func TestValueBytes(t *testing.T) {
	for _, c := range []struct {
		v    fact.Value
		want string
	}{
		{fact.Any(), "37"},
		{fact.Of(5), "ec 0a 0a 0a"},
		{fact.Of(0), "da 00 00 00"},
		{fact.Of(-1), "e9 01 01 01"},
		{fact.Of(64), "dc 8001 8001 8001"},
		{fact.Of(math.MinInt64), "99" + leastBytes + leastBytes},
		{fact.Of(math.MaxInt64), "6c" + greatestBytes + greatestBytes},
		{valueOf(func(v *fact.Value) { v.Sign = 1 }), "31"},
		{valueOf(func(v *fact.Value) { v.Sign = 2 }), "32"},
		{valueOf(func(v *fact.Value) { v.Sign = 4 }), "34"},
		{valueOf(func(v *fact.Value) { v.Sign = 6 }), "36"},
		{valueOf(func(v *fact.Value) { v.Parity = 1 }), "17"},
		{valueOf(func(v *fact.Value) { v.Parity = 2 }), "27"},
		{valueOf(func(v *fact.Value) { v.Known = known.Of(0) }), "3f 00"},
		{valueOf(func(v *fact.Value) { v.Known = known.Of(math.MinInt64) }), "3f" + leastBytes},
		{valueOf(func(v *fact.Value) { v.Known = known.Of(math.MaxInt64) }), "3f" + greatestBytes},
		{valueOf(func(v *fact.Value) { v.Span.Lo = 0 }), "77 00"},
		{valueOf(func(v *fact.Value) { v.Span.Lo = math.MinInt64 + 1 }), "77 fdffffffffffffffff01"},
		{valueOf(func(v *fact.Value) { v.Span.Lo = math.MaxInt64 }), "77" + greatestBytes},
		{valueOf(func(v *fact.Value) { v.Span.Hi = 0 }), "b7 00"},
		{valueOf(func(v *fact.Value) { v.Span.Hi = math.MaxInt64 - 1 }), "b7 fcffffffffffffffff01"},
		{valueOf(func(v *fact.Value) { v.Span.Hi = math.MinInt64 }), "b7" + leastBytes},
		{valueOf(func(v *fact.Value) { v.Span = span.Span{Lo: -7, Hi: 9} }), "f7 0d 12"},
		// None of the four looks at another one.
		{fact.Value{Sign: 1, Known: known.Of(7), Span: span.Of(0), Parity: 1}, "d9 0e 00 00"},
	} {
		want := unhex(t, c.want)
		w := wire.New()
		if e := Put(w, c.v); e != nil || !bytes.Equal(w.Bytes(), want) {
			t.Errorf("Put %v: got %x, %s, want %x", c.v, w.Bytes(), fault.Text(e), want)
		}
		r := wire.Read(want)
		if v, e := Take(r); e != nil || v != c.v || r.Left() != 0 {
			t.Errorf("Take %x: got %v, %s, want %v, %d left", want, v, fault.Text(e), c.v, r.Left())
		}
	}
}

// P18.1, P18.2: each first byte, with each three numbers of some: what is laid is taken, and has just its bytes.
func TestEachFirstByte(t *testing.T) {
	some := []int64{math.MinInt64, math.MinInt64 + 1, -65, -1, 0, 1, 64, math.MaxInt64 - 1, math.MaxInt64}
	for first := range 256 {
		for _, n := range some {
			for _, low := range some {
				for _, high := range some {
					eachFirstByte(t, byte(first), n, low, high)
				}
			}
		}
	}
}

// eachFirstByte asks of the bytes with that first one, and of the numbers that it says are there.
func eachFirstByte(t *testing.T, first byte, n, low, high int64) {
	t.Helper()
	v := fact.Value{Sign: int(first % 8), Span: span.Any(), Parity: int(first / 16 % 4)}
	b := []byte{first}
	if first&8 != 0 {
		v.Known = known.Of(n)
		b = append(b, withSign(n)...)
	}
	if first&64 != 0 {
		v.Span.Lo = low
		b = append(b, withSign(low)...)
	}
	if first&128 != 0 {
		v.Span.Hi = high
		b = append(b, withSign(high)...)
	}
	right := v.Sign != 0 && v.Parity != 0 && v.Span.Lo <= v.Span.Hi &&
		(first&64 == 0 || low != math.MinInt64) && (first&128 == 0 || high != math.MaxInt64)
	if !right {
		wantTakeError(t, b, "0 fact")
		return
	}
	w := wire.New()
	if e := Put(w, v); e != nil || !bytes.Equal(w.Bytes(), b) {
		t.Fatalf("Put %v: got %x, %s, want %x", v, w.Bytes(), fault.Text(e), b)
	}
	got, e := Take(wire.Read(b))
	if e != nil || got != v {
		t.Fatalf("Take %x: got %v, %s, want %v", b, got, fault.Text(e), v)
	}
}

// wantTakeError: the error is that one, the Value is zero, and nothing is taken; also where the Value isn't the first of its bytes.
func wantTakeError(t *testing.T, b []byte, want string) {
	t.Helper()
	for _, ahead := range []int{0, 1, 7} {
		r := wire.Read(slices.Concat(make([]byte, ahead), b))
		if _, e := r.Raw(ahead); e != nil {
			t.Fatal(e)
		}
		v, e := Take(r)
		at, kind, _ := strings.Cut(want, " ")
		n := 0
		fmt.Sscan(at, &n)
		if fault.Text(e) != fmt.Sprint(ahead+n, " ", kind) || v != (fact.Value{}) {
			t.Errorf("%x behind %d bytes: got %v, %s, want %s", b, ahead, v, fault.Text(e), want)
		}
		if r.At() != ahead || r.Left() != len(b) {
			t.Errorf("%x behind %d bytes: %d are taken", b, ahead, r.At()-ahead)
		}
	}
}

// P18.1: of a Value that isn't Right nothing is laid.
func TestPutOfWhatIsNotRight(t *testing.T) {
	for about, v := range map[string]fact.Value{
		"nothing":             {},
		"no sign":             valueOf(func(v *fact.Value) { v.Sign = 0 }),
		"more than signs":     valueOf(func(v *fact.Value) { v.Sign = 8 }),
		"signs below 0":       valueOf(func(v *fact.Value) { v.Sign = -1 }),
		"no number, but N":    valueOf(func(v *fact.Value) { v.Known.N = 3 }),
		"Lo above Hi":         valueOf(func(v *fact.Value) { v.Span = span.Span{Lo: 1, Hi: 0} }),
		"the ends turned":     valueOf(func(v *fact.Value) { v.Span = span.Span{Lo: math.MaxInt64, Hi: math.MinInt64} }),
		"no parity":           valueOf(func(v *fact.Value) { v.Parity = 0 }),
		"more than parities":  valueOf(func(v *fact.Value) { v.Parity = 4 }),
		"signs beyond a byte": valueOf(func(v *fact.Value) { v.Sign = 256 + 7 }),
	} {
		w := wire.New()
		w.Byte(9)
		if e := Put(w, v); fault.Text(e) != "fact" || !bytes.Equal(w.Bytes(), []byte{9}) {
			t.Errorf("%s: got %x, %s", about, w.Bytes(), fault.Text(e))
		}
	}
	w := wire.New()
	for _, v := range []fact.Value{fact.Of(5), {}, fact.Any()} {
		Put(w, v)
	}
	if got := fmt.Sprintf("%x", w.Bytes()); got != "ec0a0a0a37" {
		t.Error("one behind the other:", got)
	}
}

// P18.1: a nil Writer, a nil Reader.
func TestNil(t *testing.T) {
	if e := Put(nil, fact.Of(5)); e != nil {
		t.Error(fault.Text(e))
	}
	if e := Put(nil, fact.Value{}); fault.Text(e) != "fact" {
		t.Error(fault.Text(e))
	}
	if v, e := Take(nil); v != (fact.Value{}) || fault.Text(e) != "0 argument" {
		t.Error(v, fault.Text(e))
	}
}

// P18.1: errors of Take, at their places; nothing is taken.
func TestTakeErrors(t *testing.T) {
	tooMany := strings.Repeat("80", 10)
	for _, c := range []struct{ bytes, want string }{
		{"", "0 short"},
		{"30", "0 fact"},
		{"00", "0 fact"},
		{"07", "0 fact"},
		{"c7", "0 fact"},
		// The byte comes ahead of what it says is there.
		{"f8", "0 fact"},
		{"cf 8000", "0 fact"},
		{"3f", "1 short"},
		{"3f 80", "1 short"},
		{"3f 8000", "1 form"},
		{"3f" + tooMany, "1 form"},
		{"3f ffffffffffffffffff02", "1 form"},
		{"77", "1 short"},
		{"77 8000", "1 form"},
		{"b7", "1 short"},
		{"b7 8100", "1 form"},
		{"ff 8001", "3 short"},
		{"ff 8001 80", "3 short"},
		{"ff 8001 8000", "3 form"},
		{"ff 8001 00", "4 short"},
		{"ff 8001 00 ff", "4 short"},
		{"ff 8001 00 ff00", "4 form"},
		{"77" + leastBytes, "0 fact"},
		{"7f 00" + leastBytes, "0 fact"},
		{"b7" + greatestBytes, "0 fact"},
		{"bf 00" + greatestBytes, "0 fact"},
		{"f7" + leastBytes + "00", "0 fact"},
		{"f7 00" + greatestBytes, "0 fact"},
		{"f7" + leastBytes + greatestBytes, "0 fact"},
		{"f7" + leastBytes + leastBytes, "0 fact"},
		{"f7" + greatestBytes + greatestBytes, "0 fact"},
		{"f7 04 02", "0 fact"},
		{"f7 00 01", "0 fact"},
		{"ff 0a 02 00", "0 fact"},
		{"f7" + greatestBytes + leastBytes, "0 fact"},
		// All numbers are taken ahead of what is asked of them.
		{"f7" + leastBytes, "11 short"},
		{"f7" + leastBytes + "8000", "11 form"},
	} {
		wantTakeError(t, unhex(t, c.bytes), c.want)
	}
}

// P18.1: bytes cut short at each place.
func TestTakeCutShort(t *testing.T) {
	for _, v := range []fact.Value{fact.Any(), fact.Of(5), fact.Of(-1 << 40), fact.Of(math.MinInt64), fact.Of(math.MaxInt64), valueOf(func(v *fact.Value) { v.Span = span.Span{Lo: -300, Hi: 1 << 62} })} {
		all := []piece{{parts: valueParts(v)}}
		b := layOut(all).bytes
		for cut := range b {
			wantTakeError(t, b[:cut], shortAt(all, cut))
		}
		// What is behind it stays.
		r := wire.Read(append(slices.Clone(b), 0xff, 1))
		if got, e := Take(r); e != nil || got != v || r.At() != len(b) || r.Left() != 2 {
			t.Error(v, got, fault.Text(e), r.At(), r.Left())
		}
	}
}

// P18.1: a section's end is an end, and its places are those of the whole.
func TestTakeOfASection(t *testing.T) {
	r := wire.Read(unhex(t, "00 03 37 ec 0a 0a 0a"))
	r.Byte()
	s, e := r.Section()
	if e != nil {
		t.Fatal(e)
	}
	if v, e := Take(s); v != fact.Any() || e != nil {
		t.Error(v, fault.Text(e))
	}
	if v, e := Take(s); v != (fact.Value{}) || fault.Text(e) != "5 short" || s.At() != 3 {
		t.Error(v, fault.Text(e), s.At())
	}
}
