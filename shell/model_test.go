package shell

import (
	"bytes"
	"fmt"
	"math/rand"
	"regexp"
	"slices"
	"sort"
	"strconv"
	"strings"
	"testing"

	"averment/annot"
	"averment/edges"
	"averment/fact"
	"averment/fault"
	"averment/ir"
	"averment/merge"
	"averment/reload"
	"averment/solve"
	"averment/state"
	"averment/table"
	"averment/text"
	"averment/vm"
)

// modelSlot is a slot of the model.
type modelSlot struct {
	m    ir.Module
	t    *table.Table
	file []byte
}

// model does lines by the chapter's table, line by line, with a map of slots and a form for each line.
type model map[string]modelSlot

// form is that of a line: NAME, NUM and WORD stand for words.
func form(s string) *regexp.Regexp {
	return regexp.MustCompile(`(?s)\A` + strings.NewReplacer("NAME", `([a-z][a-z0-9]{0,11})`, "NUM", `(0|-?[1-9][0-9]*)`, "WORD", `[^ ]+`).Replace(s) + `\z`)
}

var (
	putForm   = form(`put NAME (WORD(?: WORD)*)`)
	solveForm = form(`solve NAME((?: WORD)*)`)
	saveForm  = form(`save NAME (whole|sparse)`)
	spoilForm = form(`spoil NAME NUM NUM`)
	loadForm  = form(`load NAME NAME`)
	mergeForm = form(`merge NAME NAME NAME`)
	runForm   = form(`run NAME NUM((?: NUM)*)`)
	oneForm   = form(`(show|facts|drop) NAME`)
)

// parts are what stands for the words of a form, if the line has it.
func parts(f *regexp.Regexp, line string) []string {
	all := f.FindStringSubmatch(line)
	if all == nil {
		return nil
	}
	return all[1:]
}

func (x model) names() []string {
	var all []string
	for name := range x {
		all = append(all, name)
	}
	sort.Strings(all)
	return all
}

// reply does a line.
func (x model) reply(line string) string {
	if line == "slots" {
		return strings.Join(append([]string{"slots"}, x.names()...), " ")
	}
	if p := parts(putForm, line); p != nil {
		return x.put(p[0], p[1])
	}
	if p := parts(solveForm, line); p != nil {
		return x.solve(p[0], strings.Split(p[1], " ")[1:])
	}
	if p := parts(saveForm, line); p != nil {
		return x.save(p[0], p[1] == "sparse")
	}
	if p := parts(spoilForm, line); p != nil {
		return x.spoil(p[0], p[1], p[2])
	}
	if p := parts(loadForm, line); p != nil {
		return x.load(p[0], p[1])
	}
	if p := parts(mergeForm, line); p != nil {
		return x.merge(p[0], p[1], p[2])
	}
	if p := parts(runForm, line); p != nil {
		return x.run(p[0], p[1], strings.Fields(p[2]))
	}
	if p := parts(oneForm, line); p != nil {
		return x.one(p[0], p[1])
	}
	return "what"
}

// full tells whether there is no room for a slot of that name.
func (x model) full(name string) bool {
	_, ok := x[name]
	return !ok && len(x) == 16
}

func (x model) put(name, lines string) string {
	m, e := text.Parse(strings.ReplaceAll(lines, ";", "\n") + "\n")
	if e != nil {
		return "no form"
	}
	if x.full(name) {
		return "no size"
	}
	x[name] = modelSlot{m: m}
	return "ok"
}

func (x model) solve(name string, roots []string) string {
	s, ok := x[name]
	if !ok {
		return "no none"
	}
	var funcs []int
	for _, root := range roots {
		f := slices.IndexFunc(s.m.Funcs, func(f ir.Func) bool { return f.Name == root })
		if f < 0 {
			return "no symbol"
		}
		funcs = append(funcs, f)
	}
	t, steps, e := solve.Solve(s.m, funcs, solve.Bound(s.m))
	if e != nil {
		return "no " + fault.Text(e)
	}
	s.t = &t
	x[name] = s
	return fmt.Sprint("steps ", steps)
}

func (x model) save(name string, sparse bool) string {
	s, ok := x[name]
	if !ok || s.t == nil {
		return "no none"
	}
	t := *s.t
	if sparse {
		t = table.Sparse(s.m, t)
	}
	b, e := annot.Write(s.m, t, sparse)
	if e != nil {
		return "no " + fault.Text(e)
	}
	s.file = b
	x[name] = s
	return fmt.Sprint("bytes ", len(b))
}

func (x model) spoil(name, at, n string) string {
	i, e := strconv.Atoi(at)
	j, f := strconv.Atoi(n)
	if e != nil || f != nil || j < 0 || j > 255 {
		return "what"
	}
	s, ok := x[name]
	if !ok || s.file == nil {
		return "no none"
	}
	if i < 0 || i >= len(s.file) {
		return "no range"
	}
	s.file[i] = byte(j)
	return "ok"
}

func (x model) load(name, from string) string {
	s, ok := x[from]
	if !ok || s.file == nil {
		return "no none"
	}
	m, t, counts, e := reload.Load(s.file)
	if e != nil {
		return "no " + fault.Text(e)
	}
	if x.full(name) {
		return "no size"
	}
	x[name] = modelSlot{m, &t, bytes.Clone(s.file)}
	return fmt.Sprint("insns ", counts.Insns, " edges ", counts.Edges)
}

func (x model) merge(name, a, b string) string {
	if x[a].file == nil || x[b].file == nil {
		return "no none"
	}
	file, e := merge.Merge(x[a].file, x[b].file)
	if e != nil {
		return "no " + fault.Text(e)
	}
	if x.full(name) {
		return "no size"
	}
	m, t, _, e := reload.Load(file)
	if e != nil {
		return "no " + fault.Text(e)
	}
	x[name] = modelSlot{m, &t, file}
	return fmt.Sprint("bytes ", len(file))
}

func (x model) run(name, fuel string, nums []string) string {
	n, e := strconv.Atoi(fuel)
	if e != nil || n < 0 || n > 1000 {
		return "what"
	}
	var in []int64
	for _, w := range nums {
		i, e := strconv.ParseInt(w, 10, 64)
		if e != nil {
			return "what"
		}
		in = append(in, i)
	}
	s, ok := x[name]
	if !ok || vm.Entry(s.m) < 0 {
		return "no none"
	}
	v, e := vm.Start(s.m, vm.Entry(s.m), nil, in)
	if e != nil {
		return "no " + fault.Text(e)
	}
	for range n {
		v.Step()
	}
	how := map[int]string{vm.Running: "running", vm.Trapped: "trapped"}[v.How()]
	if r, ok := v.Result(); ok {
		how = fmt.Sprint("done ", r)
	}
	how += " out"
	for _, i := range v.Out() {
		how += fmt.Sprint(" ", i)
	}
	return how
}

func (x model) one(verb, name string) string {
	s, ok := x[name]
	if !ok || verb == "facts" && s.t == nil {
		return "no none"
	}
	switch verb {
	case "drop":
		delete(x, name)
		return "ok"
	case "show":
		return strings.ReplaceAll(strings.TrimSuffix(text.Print(s.m), "\n"), "\n", ";")
	}
	return strings.ReplaceAll(strings.TrimSuffix(text.Facts(s.m, *s.t), "\n"), "\n", ";")
}

// same tells whether a Shell has just what the model has.
func (x model) same(s *Shell) bool {
	if len(s.slots) != len(x) {
		return false
	}
	for i, name := range x.names() {
		a, b := s.slots[i], x[name]
		if a.name != name || !ir.Equal(a.module, b.m) || !bytes.Equal(a.file, b.file) || (a.file == nil) != (b.file == nil) || (a.told == nil) != (b.t == nil) {
			return false
		}
		if a.told != nil && !table.Equal(*a.told, *b.t) {
			return false
		}
	}
	return true
}

// someLine is one by chance, most of them with a place.
func someLine(source *rand.Rand, names []string) string {
	pick := func(list []string) string { return list[source.Intn(len(list))] }
	name := func() string {
		if source.Intn(40) == 0 {
			return pick(badNames)
		}
		return pick(names)
	}
	texts := []string{none, five, count, zero, deep, around, caller, callee, other, lib, taker, asked}
	roots := []string{"main", "g", "small", "lib", "f", "nobody"}
	number := func() string {
		if source.Intn(12) == 0 {
			return pick([]string{"1000", "1001", "-1", "255", "256", "05", "x", "9223372036854775807", "9223372036854775808"})
		}
		return strconv.Itoa(source.Intn(60))
	}
	var words []string
	switch source.Intn(14) {
	case 0, 1:
		words = []string{"put", name(), pick(texts)}
		if source.Intn(10) == 0 {
			words[2] += pick([]string{";", "0", ";return 0", " 1"})
		}
	case 2, 3:
		words = []string{"solve", name()}
		for range source.Intn(2) {
			words = append(words, pick(roots))
		}
	case 4, 5:
		words = []string{"save", name(), pick([]string{"whole", "sparse", "sparse", "whole", "half"})}
	case 6:
		words = []string{"spoil", name(), number(), number()}
	case 7:
		words = []string{"load", name(), name()}
	case 8, 9:
		words = []string{"merge", name(), name(), name()}
	case 10:
		words = []string{"run", name(), number()}
		for range source.Intn(4) {
			words = append(words, number())
		}
	case 11:
		words = []string{pick([]string{"show", "facts"}), name()}
	case 12:
		words = []string{pick([]string{"drop", "facts", "facts", "show", "show"}), name()}
	default:
		words = []string{"slots"}
	}
	switch source.Intn(60) {
	case 0:
		words = append(words, pick([]string{"", "x", "1"}))
	case 1:
		words = words[:len(words)-1]
	case 2:
		words[source.Intn(len(words))] = ""
	}
	return strings.Join(words, " ")
}

// someLines are lines by chance: ahead of them some that make modules and files, and behind some that spoil a file one that loads it.
func someLines(source *rand.Rand, names []string, n int) []string {
	begin := [][2]string{{five, ""}, {count, ""}, {caller, ""}, {callee, " g"}, {callee, " small"}, {other, " g"}, {lib, " lib"}, {deep, ""}, {none, ""}}
	var list []string
	for _, name := range names {
		if source.Intn(4) == 0 {
			continue
		}
		c := begin[source.Intn(len(begin))]
		list = append(list, "put "+name+" "+c[0], "solve "+name+c[1], "save "+name+[]string{" whole", " sparse"}[source.Intn(2)])
	}
	for len(list) < n {
		line := someLine(source, names)
		list = append(list, line)
		if words := strings.Split(line, " "); words[0] == "spoil" && len(words) == 4 {
			list = append(list, "load "+names[source.Intn(len(names))]+" "+words[1])
		}
	}
	return list
}

// someNames are those of a few slots, or of so many that not all of them have a place.
func someNames(source *rand.Rand) []string {
	few := []string{"a", "b", "c", "d", "e"}
	if source.Intn(2) == 0 {
		return few
	}
	for i := range 14 {
		few = append(few, fmt.Sprint("x", i))
	}
	return few
}

// P25.1, P9: whatever the lines are, a Shell replies as the chapter says, and has what it says then.
func TestModel(t *testing.T) {
	source := rand.New(rand.NewSource(6))
	kinds := make(map[string]int)
	for range 400 {
		s, x := New(), model{}
		for _, line := range someLines(source, someNames(source), 150) {
			got, want := s.Do(line), x.reply(line)
			if got != want {
				t.Fatalf("%q: got %q, want %q", line, got, want)
			}
			words := strings.SplitN(got+" ", " ", 3)
			kinds[words[0]]++
			if words[0] == "no" {
				kinds[got[strings.LastIndexByte(got, ' ')+1:]]++
			}
		}
		if !x.same(s) {
			t.Fatal("it has something else", dump(s))
		}
	}
	for _, kind := range strings.Fields("ok what no steps bytes insns done trapped running slots cells none symbol form range size open edge short tag twice clash implied") {
		if kinds[kind] < 5 {
			t.Error("too few", kind, kinds)
		}
	}
}

// watch looks whether a run from main is as the Table tells: frames ahead of blocks, cells, what is returned. It tells how much it looked at.
func watch(t *testing.T, m ir.Module, x table.Table, in []int64, fuel int) (looks int, out []int64) {
	t.Helper()
	v, e := vm.Start(m, vm.Entry(m), nil, in)
	if e != nil {
		t.Fatal(fault.Text(e))
	}
	for range fuel {
		for c, n := range v.Cells() {
			if !fact.Has(x.Cells[c], n) {
				t.Fatal("cell", c, n, m, x)
			}
		}
		frames := v.Frames()
		if v.How() != vm.Running {
			break
		}
		fr := frames[len(frames)-1]
		told, block := x.Funcs[fr.Func], m.Funcs[fr.Func].Blocks[fr.Block]
		if fr.Insn == 0 {
			looks++
			if !told.Sum.Called || !state.Has(told.Blocks[fr.Block].State, fr.Regs, fr.Last) {
				t.Fatal("it comes there", fr, m, x)
			}
		}
		if fr.Insn == len(block.Insns) && block.End.Op == ir.Return && (!told.Sum.Returns || !fact.Has(told.Sum.Result, fr.Regs[block.End.A])) {
			t.Fatal("it returns", fr, m, x)
		}
		v.Step()
	}
	return looks, v.Out()
}

// P25.2, P5: whatever lines there were, spoilt files among them: what is loaded or merged follows, and what run does then holds.
func TestWhatIsTakenHolds(t *testing.T) {
	source := rand.New(rand.NewSource(7))
	taken, looks, spoilt := 0, 0, 0
	for range 500 {
		s := New()
		for _, line := range someLines(source, []string{"a", "b", "c", "d"}, 120) {
			reply := s.Do(line)
			if strings.HasPrefix(line, "spoil") && reply == "ok" {
				spoilt++
			}
			if !strings.HasPrefix(reply, "insns") && !(strings.HasPrefix(line, "merge") && strings.HasPrefix(reply, "bytes")) {
				continue
			}
			name := strings.Fields(line)[1]
			x, e := s.slot(name)
			if e != nil || x.told == nil || edges.Check(x.module, *x.told) != nil {
				t.Fatal(line, reply, dump(s))
			}
			taken++
			if vm.Entry(x.module) < 0 || len(x.module.Imports) > 0 {
				continue
			}
			in := []int64{int64(source.Intn(5) - 2), int64(source.Intn(3)), 0}
			n, out := watch(t, x.module, *x.told, in, 200)
			looks += n
			run := s.Do(fmt.Sprint("run ", name, " 200 ", in[0], " ", in[1], " ", in[2]))
			if _, after, _ := strings.Cut(run+" ", "out "); strings.TrimSpace(after) != strings.Trim(fmt.Sprint(out), "[]") {
				t.Fatal(run, out)
			}
		}
	}
	if taken < 1500 || looks < 10000 || spoilt < 500 {
		t.Error("too few", taken, looks, spoilt)
	}
}

// P25.3: a Shell hangs on its lines alone: the same lines are replied to alike, whatever other Shells do between.
func TestHangsOnLinesAlone(t *testing.T) {
	source := rand.New(rand.NewSource(8))
	for range 60 {
		lists, names := make([][]string, 3), someNames(source)
		var alone [][]string
		for i := range lists {
			lists[i] = someLines(source, names, 80)
			alone = append(alone, Lines(lists[i]))
		}
		shells := []*Shell{New(), New(), New()}
		for len(lists[0])+len(lists[1])+len(lists[2]) > 0 {
			i := source.Intn(3)
			if len(lists[i]) == 0 {
				continue
			}
			want(t, shells[i], lists[i][0], alone[i][0])
			lists[i], alone[i] = lists[i][1:], alone[i][1:]
		}
	}
}

// P1: words, blanks and bytes by chance are replied to as the chapter says.
func TestAnyWords(t *testing.T) {
	source := rand.New(rand.NewSource(9))
	s, x := New(), model{}
	for range 60000 {
		line := someLine(source, []string{"a", "b"})
		for range source.Intn(3) {
			i := source.Intn(len(line) + 1)
			line = line[:i] + string([]byte{"  ;a0-9+x\n\t\x00\xff"[source.Intn(13)]}) + line[i:]
		}
		if i := source.Intn(len(line) + 1); source.Intn(4) == 0 {
			line = line[:i]
		}
		if got, want := s.Do(line), x.reply(line); got != want {
			t.Fatalf("%q: got %q, want %q", line, got, want)
		}
	}
	if !x.same(s) {
		t.Error("it has something else", dump(s))
	}
}
