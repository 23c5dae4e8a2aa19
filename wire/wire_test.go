package wire

import (
	"bytes"
	"math"
	"slices"
	"strings"
	"testing"

	"averment/api"
	"averment/fault"
)

func laid(lay func(w *Writer)) []byte {
	w := New()
	lay(w)
	return w.Bytes()
}

// numbers have the edges of each count of bytes among them.
func numbers() []uint64 {
	list := []uint64{300, 1 << 62, math.MaxInt64, math.MaxUint64, math.MaxUint64 - 1}
	for bits := range 64 {
		list = append(list, 1<<bits-1, 1<<bits, 1<<bits+1)
	}
	return list
}

func signed() []int64 {
	list := []int64{math.MinInt64, math.MinInt64 + 1, math.MaxInt64, math.MaxInt64 - 1, 0, 1, -1, 2, -2}
	for bits := range 63 {
		list = append(list, 1<<bits, -1<<bits, 1<<bits-1, -1<<bits-1)
	}
	return list
}

// P2.1
func TestUintLaid(t *testing.T) {
	for _, c := range []struct {
		n uint64
		b string
	}{
		{0, "\x00"}, {1, "\x01"}, {127, "\x7f"}, {128, "\x80\x01"}, {300, "\xac\x02"}, {16383, "\xff\x7f"}, {16384, "\x80\x80\x01"},
		{1<<63 - 1, "\xff\xff\xff\xff\xff\xff\xff\xff\x7f"},
		{1 << 63, "\x80\x80\x80\x80\x80\x80\x80\x80\x80\x01"},
		{math.MaxUint64, "\xff\xff\xff\xff\xff\xff\xff\xff\xff\x01"},
	} {
		if b := laid(func(w *Writer) { w.Uint(c.n) }); string(b) != c.b {
			t.Errorf("%d: %x, want %x", c.n, b, c.b)
		}
	}
}

// P2.1
func TestIntLaid(t *testing.T) {
	for _, c := range []struct {
		n int64
		b string
	}{
		{0, "\x00"}, {-1, "\x01"}, {1, "\x02"}, {-2, "\x03"}, {63, "\x7e"}, {-64, "\x7f"}, {64, "\x80\x01"}, {-65, "\x81\x01"},
		{math.MaxInt64, "\xfe\xff\xff\xff\xff\xff\xff\xff\xff\x01"},
		{math.MinInt64, "\xff\xff\xff\xff\xff\xff\xff\xff\xff\x01"},
	} {
		if b := laid(func(w *Writer) { w.Int(c.n) }); string(b) != c.b {
			t.Errorf("%d: %x, want %x", c.n, b, c.b)
		}
	}
}

// P2.1
func TestWriterLaysOneBehindTheOther(t *testing.T) {
	w := New()
	if len(w.Bytes()) != 0 {
		t.Error("a new one has nothing")
	}
	w.Byte(0xff)
	w.Uint(300)
	w.Int(-1)
	w.Raw([]byte("xyz"))
	w.Raw(nil)
	w.Section([]byte("ab"))
	w.Section(nil)
	w.Section(bytes.Repeat([]byte{7}, 128))
	want := "\xff\xac\x02\x01xyz\x02ab\x00\x80\x01" + strings.Repeat("\x07", 128)
	if string(w.Bytes()) != want {
		t.Errorf("%x", w.Bytes())
	}
	var zero Writer
	zero.Byte(3)
	if string(zero.Bytes()) != "\x03" {
		t.Error("a Writer that New didn't make")
	}
}

// P2.1
func TestNilWriter(t *testing.T) {
	var w *Writer
	w.Byte(1)
	w.Uint(300)
	w.Int(-1)
	w.Raw([]byte{1})
	w.Section([]byte{1})
	if len(w.Bytes()) != 0 {
		t.Error(w.Bytes())
	}
}

// P2.1
func TestNilReader(t *testing.T) {
	var r *Reader
	b, e1 := r.Byte()
	u, e2 := r.Uint(9)
	i, e3 := r.Int()
	raw, e4 := r.Raw(0)
	neg, e5 := r.Raw(-1)
	s, e6 := r.Section()
	e7 := r.End()
	for k, e := range []error{e1, e2, e3, e4, e5, e6, e7} {
		if fault.Text(e) != "0 argument" {
			t.Error(k+1, fault.Text(e))
		}
	}
	if b != 0 || u != 0 || i != 0 || len(raw) != 0 || len(neg) != 0 || s != nil || r.Left() != 0 || r.At() != 0 || r.Copy() != nil {
		t.Error("a nil Reader has nothing")
	}
}

// at is a Reader of b behind two bytes that are taken already: so its places aren't those of b alone.
func at(t *testing.T, b string) *Reader {
	t.Helper()
	r := Read([]byte("\x05\x06" + b))
	if x, e := r.Raw(2); e != nil || string(x) != "\x05\x06" {
		t.Fatal(x, e)
	}
	return r
}

func stays(t *testing.T, name string, r *Reader, b string) {
	t.Helper()
	if r.At() != 2 || r.Left() != len(b) {
		t.Errorf("%s of %x: something was taken", name, b)
	}
}

// P2.1
func TestUintErrors(t *testing.T) {
	nines := strings.Repeat("\xff", 9)
	eighties := strings.Repeat("\x80", 9)
	for _, c := range []struct {
		b    string
		most uint64
		want string
	}{
		{"", 9, "2 short"}, {"\x80", 9, "2 short"}, {"\xff\xff", 9, "2 short"}, {nines, 9, "2 short"}, {eighties, 9, "2 short"},
		{"\x80\x00", 9, "2 form"}, {"\x85\x00", 9, "2 form"}, {"\x80\x80\x00", 9, "2 form"}, {"\xff\x80\x00\x01", 9, "2 form"},
		{nines + "\x00", math.MaxUint64, "2 form"}, {eighties + "\x00", math.MaxUint64, "2 form"},
		{nines + "\x02", math.MaxUint64, "2 form"}, {eighties + "\x02", math.MaxUint64, "2 form"}, {eighties + "\x40", math.MaxUint64, "2 form"},
		{nines + "\x7f", math.MaxUint64, "2 form"}, {nines + "\x03", math.MaxUint64, "2 form"},
		{nines + "\x80", 9, "2 form"}, {nines + "\x81", 9, "2 form"}, {nines + "\xff", 9, "2 form"}, {eighties + "\x80", 9, "2 form"},
		{nines + "\x80\x00", 9, "2 form"}, {nines + "\x81\x01", 9, "2 form"}, {nines + "\xff\xff\xff\xff", 9, "2 form"},
		{"\x05", 4, "2 range"}, {"\x01", 0, "2 range"}, {"\xac\x02", 299, "2 range"}, {nines + "\x01", math.MaxUint64 - 1, "2 range"},
		{"\x05\x80\x00", 4, "2 range"},
	} {
		r := at(t, c.b)
		n, e := r.Uint(c.most)
		if n != 0 || fault.Text(e) != c.want {
			t.Errorf("%x: %d, %s, want %s", c.b, n, fault.Text(e), c.want)
		}
		stays(t, "Uint", r, c.b)
		if strings.HasSuffix(c.want, "range") {
			continue
		}
		i, e := r.Int()
		if i != 0 || fault.Text(e) != c.want {
			t.Errorf("%x: Int %d, %s, want %s", c.b, i, fault.Text(e), c.want)
		}
		stays(t, "Int", r, c.b)
		s, e := r.Section()
		if s != nil || fault.Text(e) != c.want {
			t.Errorf("%x: Section %v, %s, want %s", c.b, s, fault.Text(e), c.want)
		}
		stays(t, "Section", r, c.b)
	}
}

// P2.1
func TestUintUpToMost(t *testing.T) {
	for _, n := range numbers() {
		b := laid(func(w *Writer) { w.Uint(n) })
		if got, e := Read(b).Uint(n); got != n || e != nil {
			t.Error(n, got, e)
		}
		if n == 0 {
			continue
		}
		if got, e := Read(b).Uint(n - 1); got != 0 || fault.Text(e) != "0 range" {
			t.Error(n, got, fault.Text(e))
		}
	}
}

// P2.1
func TestByteAndRawErrors(t *testing.T) {
	r := at(t, "")
	if b, e := r.Byte(); b != 0 || fault.Text(e) != "2 short" {
		t.Error(b, fault.Text(e))
	}
	for _, c := range []struct {
		n    int
		want string
	}{
		{-1, "2 argument"}, {math.MinInt, "2 argument"}, {4, "2 short"}, {math.MaxInt, "2 short"},
	} {
		r := at(t, "abc")
		if b, e := r.Raw(c.n); len(b) != 0 || fault.Text(e) != c.want {
			t.Error(c.n, b, fault.Text(e))
		}
		stays(t, "Raw", r, "abc")
	}
	r = at(t, "abc")
	if b, e := r.Raw(0); len(b) != 0 || e != nil || r.At() != 2 {
		t.Error("Raw of 0", b, e)
	}
	if b, e := r.Raw(3); string(b) != "abc" || e != nil || r.At() != 5 || r.Left() != 0 {
		t.Error("Raw of all", b, e)
	}
	if b, e := r.Raw(0); len(b) != 0 || e != nil {
		t.Error("Raw of 0 at the end", b, e)
	}
	if b, e := r.Raw(1); len(b) != 0 || fault.Text(e) != "5 short" {
		t.Error("Raw behind the end", b, fault.Text(e))
	}
}

// P2.1
func TestSection(t *testing.T) {
	r := at(t, "\x03\xac\x02xy")
	s, e := r.Section()
	if e != nil || s.At() != 3 || s.Left() != 3 || r.At() != 6 || r.Left() != 1 {
		t.Fatal("its places", e)
	}
	if e := s.End(); fault.Text(e) != "3 form" {
		t.Error(fault.Text(e))
	}
	if n, e := s.Uint(300); n != 300 || e != nil || s.At() != 5 {
		t.Error(n, e)
	}
	if b, e := s.Raw(2); len(b) != 0 || fault.Text(e) != "5 short" {
		t.Error("a section ends with its bytes", b, fault.Text(e))
	}
	if b, e := s.Byte(); b != 'x' || e != nil || s.End() != nil || s.At() != 6 {
		t.Error(b, e)
	}
	if b, e := s.Byte(); b != 0 || fault.Text(e) != "6 short" {
		t.Error(b, fault.Text(e))
	}
	if n, e := s.Uint(9); n != 0 || fault.Text(e) != "6 short" {
		t.Error(n, fault.Text(e))
	}
	if b, e := r.Byte(); b != 'y' || e != nil || r.End() != nil {
		t.Error("what is behind the section", b, e)
	}
}

// P2.1
func TestNumberEndsWithItsSection(t *testing.T) {
	r := Read([]byte("\x01\x80\x01"))
	s, e := r.Section()
	if e != nil {
		t.Fatal(e)
	}
	if n, e := s.Uint(math.MaxUint64); n != 0 || fault.Text(e) != "1 short" {
		t.Error(n, fault.Text(e))
	}
}

// P2.1
func TestSectionWithinSection(t *testing.T) {
	inner := laid(func(w *Writer) { w.Section([]byte("ab")) })
	r := Read(laid(func(w *Writer) { w.Byte(1); w.Section(inner); w.Section(nil) }))
	r.Byte()
	out, e := r.Section()
	if e != nil || out.At() != 2 || out.Left() != 3 {
		t.Fatal(e)
	}
	in, e := out.Section()
	if e != nil || in.At() != 3 || in.Left() != 2 || out.End() != nil || out.At() != 5 {
		t.Error(e)
	}
	none, e := r.Section()
	if e != nil || none.At() != 6 || none.Left() != 0 || none.End() != nil || r.End() != nil {
		t.Error("an empty one", e)
	}
}

// P2.1
func TestSectionThatSaysMore(t *testing.T) {
	for _, b := range []string{
		"\x01", "\x03ab", "\x80\x01ab", "\xff\xff\xff\xff\xff\xff\xff\xff\x7fab", "\x80\x80\x80\x80\x80\x80\x80\x80\x80\x01ab", "\xff\xff\xff\xff\xff\xff\xff\xff\xff\x01",
	} {
		r := at(t, b)
		if s, e := r.Section(); s != nil || fault.Text(e) != "2 short" {
			t.Errorf("%x: %v %s", b, s, fault.Text(e))
		}
		stays(t, "Section", r, b)
	}
	r := at(t, "\x02\x04abc")
	s, e := r.Section()
	if e != nil {
		t.Fatal(e)
	}
	if x, e := s.Section(); x != nil || fault.Text(e) != "3 short" || s.At() != 3 {
		t.Error("a section within says more than the one around it has", x, fault.Text(e))
	}
}

// P2.1
func TestEndLeftAt(t *testing.T) {
	r := Read([]byte{1, 2})
	for i := range 2 {
		if r.At() != i || r.Left() != 2-i || !fault.Is(r.End(), api.ErrForm) || !slices.Equal(fault.Path(r.End()), []int{i}) {
			t.Error(i, r.At(), r.Left(), r.End())
		}
		if b, e := r.Byte(); int(b) != i+1 || e != nil {
			t.Error(b, e)
		}
	}
	if r.At() != 2 || r.Left() != 0 || r.End() != nil {
		t.Error(r.At(), r.Left(), r.End())
	}
	for _, r := range []*Reader{Read(nil), Read([]byte{}), {}} {
		if r.At() != 0 || r.Left() != 0 || r.End() != nil {
			t.Error("of no bytes")
		}
		if b, e := r.Byte(); b != 0 || fault.Text(e) != "0 short" {
			t.Error(b, fault.Text(e))
		}
	}
}

// P2.1
func TestCopy(t *testing.T) {
	r := Read([]byte("\x01\x03abcd"))
	r.Byte()
	c := r.Copy()
	if c == r || c.At() != 1 || c.Left() != 5 {
		t.Fatal("it stands elsewhere")
	}
	s, e := c.Section()
	if e != nil || r.At() != 1 || r.Left() != 5 || c.At() != 5 {
		t.Error("they go on each by itself", e)
	}
	s.Byte()
	d := s.Copy()
	if d.At() != 3 || d.Left() != 2 {
		t.Error("of a section", d.At(), d.Left())
	}
	if b, e := d.Raw(2); string(b) != "bc" || e != nil || d.End() != nil || s.At() != 3 {
		t.Error(b, e)
	}
}

// P2.2
func TestLaidIsTakenAgain(t *testing.T) {
	w := New()
	for i := range 256 {
		w.Byte(byte(i))
	}
	for _, n := range numbers() {
		w.Uint(n)
	}
	for _, n := range signed() {
		w.Int(n)
	}
	w.Raw([]byte("raw"))
	for _, size := range []int{0, 1, 127, 128, 20000} {
		w.Section(bytes.Repeat([]byte{9}, size))
	}
	r := Read(w.Bytes())
	for i := range 256 {
		if b, e := r.Byte(); int(b) != i || e != nil {
			t.Fatal(i, b, e)
		}
	}
	for _, n := range numbers() {
		if got, e := r.Uint(math.MaxUint64); got != n || e != nil {
			t.Fatal(n, got, e)
		}
	}
	for _, n := range signed() {
		if got, e := r.Int(); got != n || e != nil {
			t.Fatal(n, got, e)
		}
	}
	if b, e := r.Raw(3); string(b) != "raw" || e != nil {
		t.Error(b, e)
	}
	for _, size := range []int{0, 1, 127, 128, 20000} {
		s, e := r.Section()
		if e != nil || s.Left() != size {
			t.Fatal(size, e)
		}
		if b, e := s.Raw(size); !bytes.Equal(b, bytes.Repeat([]byte{9}, size)) || e != nil {
			t.Error(size, e)
		}
	}
	if r.End() != nil {
		t.Error("bytes are left")
	}
}

// taken holds b's first number against the bytes that it should have.
func taken(t *testing.T, b []byte) {
	t.Helper()
	r := Read(b)
	if n, e := r.Uint(math.MaxUint64); e == nil && !bytes.Equal(laid(func(w *Writer) { w.Uint(n) }), b[:r.At()]) {
		t.Fatalf("%x is taken as %d", b, n)
	}
	r = Read(b)
	if n, e := r.Int(); e == nil && !bytes.Equal(laid(func(w *Writer) { w.Int(n) }), b[:r.At()]) {
		t.Fatalf("%x is taken as %d", b, n)
	}
}

// P2.2
func TestTakenHasJustItsBytes(t *testing.T) {
	for i := range 1 << 16 {
		taken(t, []byte{byte(i), byte(i >> 8)})
	}
	some := []byte{0x00, 0x01, 0x02, 0x7f, 0x80, 0x81, 0x82, 0xff}
	for _, head := range some[4:] {
		for size := range 12 {
			for _, x := range some {
				for _, y := range some {
					taken(t, append(bytes.Repeat([]byte{head}, size), x, y))
				}
			}
		}
	}
}

// P2.3
func TestWriterKeepsNothing(t *testing.T) {
	room := []byte("abcd")
	w := New()
	w.Raw(room[:2])
	w.Section(room[:3])
	room[0], room[1] = 'x', 'y'
	if string(w.Bytes()) != "ab\x03abc" || string(room) != "xycd" {
		t.Errorf("%x %x", w.Bytes(), room)
	}
	b := w.Bytes()
	b[0] = 'z'
	_ = append(b[:1], 'z')
	if string(w.Bytes()) != "ab\x03abc" {
		t.Errorf("an answer isn't new memory: %x", w.Bytes())
	}
	b = w.Bytes()
	w.Byte('!')
	_ = append(b, '?')
	if string(b) != "ab\x03abc" || string(w.Bytes()) != "ab\x03abc!" {
		t.Errorf("%x %x", b, w.Bytes())
	}
}

// P2.3
func TestReaderKeepsNothing(t *testing.T) {
	room := []byte("\x01\x04abcd!")
	r := Read(room[:6])
	for i := range room {
		room[i] = 0xee
	}
	if n, e := r.Uint(1); n != 1 || e != nil {
		t.Error(n, e)
	}
	c := r.Copy()
	s, e := r.Section()
	if e != nil || r.End() != nil {
		t.Fatal(e)
	}
	first, e := s.Copy().Raw(2)
	if string(first) != "ab" || e != nil {
		t.Error(first, e)
	}
	first[0], first[1] = 'x', 'y'
	_ = append(first, 'z', 'z')
	if all, e := s.Raw(4); string(all) != "abcd" || e != nil {
		t.Error("an answer isn't new memory", all, e)
	}
	if all, e := c.Raw(5); string(all) != "\x04abcd" || e != nil {
		t.Error(all, e)
	}
	if !bytes.Equal(room, bytes.Repeat([]byte{0xee}, 7)) {
		t.Errorf("what was handed in is changed: %x", room)
	}
}
