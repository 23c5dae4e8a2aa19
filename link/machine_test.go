package link_test

import (
	"fmt"
	"math/rand"
	"slices"
	"testing"

	"averment/fault"
	"averment/ir"
	"averment/link"
	"averment/vm"
)

// closed is m without its imports: where it called one it gets 0.
func closed(m ir.Module) ir.Module {
	m = ir.Copy(m)
	for _, f := range m.Funcs {
		for _, b := range f.Blocks {
			for i, x := range b.Insns {
				if x.Op == ir.Call && x.B >= len(m.Funcs) {
					b.Insns[i] = number(x.D, 0)
				}
			}
		}
	}
	m.Imports = nil
	return m
}

// leaning is m with imports of functions of other alone: where it called another one it gets 1.
func leaning(m, other ir.Module) ir.Module {
	m = ir.Copy(m)
	kept := make(map[int]int)
	for i, im := range m.Imports {
		if f := ir.Find(other, im.Name); f >= 0 && f < len(other.Funcs) {
			kept[len(m.Funcs)+i] = len(m.Funcs) + len(kept)
		}
	}
	for _, f := range m.Funcs {
		for _, b := range f.Blocks {
			for i, x := range b.Insns {
				to, stays := kept[x.B]
				if x.Op == ir.Call && x.B >= len(m.Funcs) && stays {
					b.Insns[i].B = to
				} else if x.Op == ir.Call && x.B >= len(m.Funcs) {
					b.Insns[i] = number(x.D, 1)
				}
			}
		}
	}
	m.Imports = slices.DeleteFunc(m.Imports, func(im ir.Import) bool {
		f := ir.Find(other, im.Name)
		return f < 0 || f >= len(other.Funcs)
	})
	return m
}

// part is a module as it lies in another one: so many functions, cells and sites are ahead of its own.
type part struct {
	m                   ir.Module
	funcs, cells, sites int
}

// start is a machine at the beginning of a function.
func start(t *testing.T, m ir.Module, f int, args, in []int64) *vm.Machine {
	t.Helper()
	v, e := vm.Start(m, f, args, in)
	if e != nil {
		t.Fatal(m, fault.Text(e))
	}
	return v
}

// stands tells how a machine stands, of what is p's alone: frames, cells, what went out and what is left to come in.
func (p part) stands(v *vm.Machine) string {
	frames := v.Frames()
	for i := range frames {
		frames[i].Func -= p.funcs
		for r := range frames[i].Last {
			frames[i].Last[r] -= p.sites
		}
	}
	n, ok := v.Result()
	return fmt.Sprint(v.How(), n, ok, v.Out(), v.Left(), frames, v.Cells()[p.cells:p.cells+len(p.m.Cells)])
}

// others are the cells that aren't p's.
func (p part) others(v *vm.Machine) string {
	return fmt.Sprint(v.Cells()[:p.cells], v.Cells()[p.cells+len(p.m.Cells):])
}

// wantSame: a run of p's function f is the same by itself and in whole; the others' cells stay as they begin.
func wantSame(t *testing.T, p part, whole ir.Module, f int, args, in []int64) (how, steps int) {
	t.Helper()
	alone := part{m: p.m}
	v, w := start(t, p.m, f, args, in), start(t, whole, p.funcs+f, args, in)
	begin := p.others(w)
	// Step by step for a while, then now and then.
	for fuel := 1; ; {
		if alone.stands(v) != p.stands(w) || p.others(w) != begin {
			t.Fatal(p.m, whole, f, args, in, "alone", alone.stands(v), "together", p.stands(w), p.others(w))
		}
		if steps >= 10 {
			fuel = 90
		}
		did := v.Run(fuel)
		steps += did
		if again := w.Run(fuel); again != did {
			t.Fatal(p.m, whole, f, args, in, "alone so many steps", did, "together", again)
		}
		if did < fuel || steps >= 190 {
			break
		}
	}
	if alone.stands(v) != p.stands(w) || p.others(w) != begin {
		t.Fatal(p.m, whole, f, args, in, "alone", alone.stands(v), "together", p.stands(w), p.others(w))
	}
	return v.How(), steps
}

// P22.3, P2: a function of a module without imports does the same in what comes about as by itself, on either side.
func TestRunsAreTheSame(t *testing.T) {
	source := rand.New(rand.NewSource(3))
	hows, steps, imports := make(map[int]int), 0, 0
	for range 600 {
		all := someModules(t, source, 2, false)
		one := closed(all[0])
		other := leaning(all[1], one)
		imports += len(other.Imports)
		ahead, e := link.Link(one, other)
		behind, f := link.Link(other, one)
		if e != nil || f != nil {
			t.Fatal(one, other, fault.Text(e), fault.Text(f))
		}
		last := part{one, len(other.Funcs), len(other.Cells), ir.Sites(other)}
		for f, fn := range one.Funcs {
			args, in := someNumbers(source, fn.Arity), someNumbers(source, source.Intn(8))
			how, n := wantSame(t, part{m: one}, ahead, f, args, in)
			hows[how]++
			steps += n
			wantSame(t, last, behind, f, args, in)
		}
	}
	if hows[vm.Running] < 200 || hows[vm.Done] < 400 || hows[vm.Trapped] < 700 || steps < 50000 || imports < 500 {
		t.Error("too few", hows, steps, imports)
	}
}

// counter adds what it is called with to its cell, and tells that; it has main, if it should.
func counter(main bool) ir.Module {
	m := ir.Module{Cells: []int64{10}, Funcs: []ir.Func{
		fn("count", 1, 2, block(back(1), load(1, 0), two(ir.Add, 1, 1, 0), store(1, 0), output(1))),
	}}
	if main {
		m.Funcs = append(m.Funcs, fn("main", 0, 2,
			block(jump(1)),
			block(branch(0, 1, 2), input(0), call(1, 0, 0)),
			block(back(1))))
	}
	return m
}

// P22.3: by hand: what goes out, how many steps there are, how it ends, cells.
func TestRunsByHand(t *testing.T) {
	other := ir.Module{Cells: []int64{7, 8}, Funcs: []ir.Func{
		fn("add", 1, 1, block(back(0), call(0, 1, 0), store(0, 1))),
	}, Imports: []ir.Import{{Name: "count", Arity: 1}}}
	main := counter(true)
	for _, c := range []struct {
		about string
		in    []int64
		how   int
		steps int
		want  string
	}{
		{"it ends", []int64{3, 4, 0}, vm.Done, 26, "[13 17 17] 17 true"},
		{"it is trapped", []int64{3}, vm.Trapped, 9, "[13] 0 false"},
	} {
		for about, m := range map[string]ir.Module{"ahead": linked(t, main, other), "behind": linked(t, other, main), "alone": main} {
			v := start(t, m, ir.Find(m, "main"), nil, c.in)
			steps := v.Run(1000)
			n, ok := v.Result()
			if got := fmt.Sprint(v.Out(), n, ok); v.How() != c.how || steps != c.steps || got != c.want {
				t.Error(c.about, about, v.How(), steps, got)
			}
		}
	}
	// One that calls the other one's function: each has its own cells.
	m := linked(t, other, counter(false))
	v := start(t, m, 0, []int64{5}, nil)
	if steps := v.Run(100); steps != 8 || fmt.Sprint(v.Out(), v.Cells()) != "[15] [7 15 15]" {
		t.Error(steps, v.Out(), v.Cells())
	}
	m = linked(t, counter(false), other)
	v = start(t, m, 1, []int64{5}, nil)
	if steps := v.Run(100); steps != 8 || fmt.Sprint(v.Out(), v.Cells()) != "[15] [15 7 15]" {
		t.Error(steps, v.Out(), v.Cells())
	}
}

func linked(t *testing.T, a, b ir.Module) ir.Module {
	t.Helper()
	m, e := link.Link(a, b)
	if e != nil {
		t.Fatal(fault.Text(e))
	}
	return m
}

// P2: of both directions at once: even calls odd, which calls even; either tells what goes out the same, whichever is ahead.
func TestBothDirections(t *testing.T) {
	of := func(name, other string, end int64) ir.Module {
		return ir.Module{Cells: []int64{end}, Funcs: []ir.Func{fn(name, 1, 2,
			block(branch(0, 1, 2), output(0)),
			block(back(0), number(1, 1), two(ir.Sub, 0, 0, 1), call(0, 1, 0)),
			block(back(1), load(1, 0)))}, Imports: []ir.Import{{Name: other, Arity: 1}}}
	}
	even, odd := of("even", "odd", 1), of("odd", "even", 0)
	for _, m := range []ir.Module{linked(t, even, odd), linked(t, odd, even)} {
		if len(m.Imports) != 0 || ir.Check(m) != nil {
			t.Fatal(m)
		}
		for n := range int64(9) {
			v := start(t, m, ir.Find(m, "even"), []int64{n}, nil)
			v.Run(1000)
			got, ok := v.Result()
			var out []int64
			for i := range n + 1 {
				out = append(out, n-i)
			}
			if !ok || got != 1-n%2 || fmt.Sprint(v.Out()) != fmt.Sprint(out) {
				t.Error(n, got, ok, v.Out())
			}
		}
	}
}
