package fault

import (
	"errors"
	"fmt"
	"math"
	"slices"
	"testing"

	"averment/api"
)

// stranger wraps an error in a way of its own, without a place.
type stranger struct{ inner error }

func (s stranger) Error() string { return "stranger" }
func (s stranger) Unwrap() error { return s.inner }

// list is an error that can't be compared.
type list []int

func (l list) Error() string { return "list" }

// broken panics when it is looked through.
type broken struct{ inner error }

func (b *broken) Error() string { return b.inner.Error() }
func (b *broken) Unwrap() error { return b.inner }

// claim says of itself that it is every error.
type claim struct{}

func (claim) Error() string        { return "claim" }
func (claim) Is(target error) bool { return true }

type want struct {
	kind  api.Errno
	path  []int
	words string
}

func check(t *testing.T, name string, e error, w want) {
	t.Helper()
	if k := Kind(e); k != w.kind {
		t.Errorf("%s: Kind %v, want %v", name, k, w.kind)
	}
	if p := Path(e); !slices.Equal(p, w.path) {
		t.Errorf("%s: Path %v, want %v", name, p, w.path)
	}
	if s := Text(e); s != w.words {
		t.Errorf("%s: Text %q, want %q", name, s, w.words)
	}
	for k := api.Errno(-1); k < 30; k++ {
		if got, should := Is(e, k), k == w.kind && k != api.OK; got != should {
			t.Errorf("%s: Is of %d: %v", name, k, got)
		}
	}
}

// P1.1
func TestCallsAnswer(t *testing.T) {
	none := errors.New("none of api's")
	for _, c := range []struct {
		name string
		e    error
		w    want
	}{
		{"nil", nil, want{api.OK, nil, "ok"}},
		{"nil at places", At(nil, 1, 2), want{api.OK, nil, "ok"}},
		{"nil at none", At(nil), want{api.OK, nil, "ok"}},
		{"bare", api.ErrReg, want{api.ErrReg, nil, "register"}},
		{"OK as an error", api.OK, want{api.OK, nil, "ok"}},
		{"OK at a place", At(api.OK, 3), want{api.OK, []int{3}, "3 ok"}},
		{"one place", At(api.ErrForm, 0), want{api.ErrForm, []int{0}, "0 form"}},
		{"the example", At(At(api.ErrReg, 3), 1, 2), want{api.ErrReg, []int{1, 2, 3}, "1.2.3 register"}},
		{"below 0", At(api.ErrArg, -1, 0, -20), want{api.ErrArg, []int{-1, 0, -20}, "-1.0.-20 argument"}},
		{"the ends", At(api.ErrArg, math.MinInt, math.MaxInt), want{api.ErrArg, []int{math.MinInt, math.MaxInt}, "-9223372036854775808.9223372036854775807 argument"}},
		{"no Errno", none, want{api.ErrNone, nil, "none"}},
		{"no Errno at a place", At(none, 7), want{api.ErrNone, []int{7}, "7 none"}},
		{"ErrNone itself", At(api.ErrNone, 7), want{api.ErrNone, []int{7}, "7 none"}},
		{"no such number", At(api.Errno(25), 7), want{25, []int{7}, "7 unknown"}},
		{"strangers between", At(stranger{At(stranger{api.ErrTag}, 2, 3)}, 1), want{api.ErrTag, []int{1, 2, 3}, "1.2.3 tag"}},
		{"library's wrap", fmt.Errorf("more: %w", At(api.ErrTag, 4)), want{api.ErrTag, []int{4}, "4 tag"}},
		{"stranger around none", At(stranger{nil}, 1), want{api.ErrNone, []int{1}, "1 none"}},
		{"can't be compared", At(list{1}, 1), want{api.ErrNone, []int{1}, "1 none"}},
		{"says that it is all", At(claim{}, 1), want{api.ErrNone, []int{1}, "1 none"}},
	} {
		check(t, c.name, c.e, c.w)
	}
}

// P1.1
func TestAtOfNothing(t *testing.T) {
	if At(nil) != nil || At(nil, 1) != nil || At(nil, nil...) != nil {
		t.Error("of nil it must be nil")
	}
	if At(api.ErrTag) != error(api.ErrTag) || At(api.ErrTag, []int{}...) != error(api.ErrTag) {
		t.Error("of no places it must be e as it is")
	}
	e := At(api.ErrTag, 5)
	if At(e) != e {
		t.Error("of no places it must be e as it is, places and all")
	}
}

// P1.1
func TestAllNames(t *testing.T) {
	names := []string{"ok", "argument", "short", "form", "range", "tag", "name", "symbol", "label", "register", "arity",
		"size", "shape", "fact", "edge", "budget", "open", "twice", "clash", "implied", "word", "none"}
	for k, name := range names {
		check(t, name, At(api.Errno(k), 2, 1), want{api.Errno(k), []int{2, 1}, "2.1 " + name})
		check(t, name, api.Errno(k), want{api.Errno(k), nil, name})
	}
}

// P1.1
func TestWrappedOften(t *testing.T) {
	const deep = 1 << 16
	e := error(api.ErrEdge)
	var path []int
	for i := range deep {
		e = At(e, deep-1-i)
		path = append(path, i)
	}
	if Kind(e) != api.ErrEdge || !Is(e, api.ErrEdge) || !slices.Equal(Path(e), path) {
		t.Error("wrapped one by one")
	}
	all := At(api.ErrEdge, path...)
	if Kind(all) != api.ErrEdge || !slices.Equal(Path(all), path) || Text(all) != Text(e) {
		t.Error("wrapped at once")
	}
}

// P1.1: Error, which a reader of any error may ask, tells the same as Text.
func TestErrorIsText(t *testing.T) {
	for _, e := range []error{At(api.ErrReg, 1, 2), At(errors.New("x"), -3), At(stranger{At(api.ErrTag, 2)}, 1)} {
		if e.Error() != Text(e) {
			t.Errorf("%q, Text %q", e.Error(), Text(e))
		}
	}
}

// P1 of the whole: no call panics, whatever the error does that is handed in.
func TestErrorsThatPanic(t *testing.T) {
	var nobody *broken
	check(t, "a nil pointer", nobody, want{api.ErrNone, nil, "none"})
	check(t, "a nil pointer at a place", At(nobody, 1, 2), want{api.ErrNone, []int{1, 2}, "1.2 none"})
}

// P1.2
func TestLibrarySeesThrough(t *testing.T) {
	for k := api.ErrArg; k <= api.ErrNone; k++ {
		for _, e := range []error{k, At(k), At(k, 4), At(k, 1, 2, 3), At(At(stranger{At(k, 3)}, 2), 1)} {
			if !errors.Is(e, k) || errors.Is(e, k+1) || errors.Is(e, api.OK) {
				t.Errorf("errors.Is of %v", e)
			}
			var got api.Errno
			if !errors.As(e, &got) || got != k {
				t.Errorf("errors.As of %v: %v", e, got)
			}
		}
	}
	none := errors.New("x")
	var got api.Errno
	if e := At(none, 1); !errors.Is(e, none) || errors.As(e, &got) || errors.Is(e, api.ErrNone) {
		t.Error("an error that wraps none of api's")
	}
	e := At(list{1}, 1)
	if !errors.Is(e, e) || errors.Is(e, At(list{1}, 1)) {
		t.Error("an error that can't be compared")
	}
}

// P1.3
func TestPlacesAreNotKept(t *testing.T) {
	places := []int{1, 2, 3, 99}
	e := At(api.ErrReg, places[:3]...)
	if !slices.Equal(places, []int{1, 2, 3, 99}) {
		t.Error("changed", places)
	}
	places[0], places[1], places[2] = 7, 8, 9
	if !slices.Equal(Path(e), []int{1, 2, 3}) {
		t.Error("kept", Path(e))
	}
	path := Path(e)
	path[0] = 50
	_ = append(path[:1], 60)
	if !slices.Equal(Path(e), []int{1, 2, 3}) || Text(e) != "1.2.3 register" {
		t.Error("an answer isn't new memory", Path(e))
	}
}

// P1.3
func TestWrappedErrorStays(t *testing.T) {
	inner := At(api.ErrReg, 3)
	one, two := At(inner, 1), At(inner, 2)
	if Text(inner) != "3 register" || Text(one) != "1.3 register" || Text(two) != "2.3 register" {
		t.Error(Text(inner), Text(one), Text(two))
	}
}
