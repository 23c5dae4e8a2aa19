package shell

import (
	"slices"
	"strconv"
	"strings"

	"averment/annot"
	"averment/api"
	"averment/ir"
	"averment/merge"
	"averment/reload"
	"averment/solve"
	"averment/table"
	"averment/text"
	"averment/vm"
)

// taken is the reply where there is nothing else to tell.
const taken = "ok"

// What a line feed of a text is in a line.
const (
	lineFeed = "\n"
	inLine   = ";"
)

// do does what the words of a line ask for. With an error nothing was done.
func (s *Shell) do(words []string) (string, error) {
	switch words[0] {
	case "put":
		return s.put(words[1], strings.Join(words[2:], blank))
	case "solve":
		return s.solve(words[1], words[2:])
	case "save":
		return s.save(words[1], words[2] == asSparse)
	case "spoil":
		return s.spoil(words[1], number(words[2]), byte(number(words[3])))
	case "load":
		return s.load(words[1], words[2])
	case "merge":
		return s.merge(words[1], words[2], words[3])
	case "run":
		return s.run(words[1], int(number(words[2])), words[3:])
	case "show":
		return s.show(words[1])
	case "facts":
		return s.facts(words[1])
	case "drop":
		return s.drop(words[1])
	}
	// Of the words with which a line may begin only slots is left.
	return s.names(), nil
}

func (s *Shell) put(name, lines string) (string, error) {
	m, e := text.Parse(strings.ReplaceAll(lines, inLine, lineFeed) + lineFeed)
	if e != nil {
		return "", e
	}
	return taken, s.keep(slot{name: name, module: m})
}

func (s *Shell) solve(name string, roots []string) (string, error) {
	x, e := s.slot(name)
	if e != nil {
		return "", e
	}
	var funcs []int
	for _, root := range roots {
		f := ir.Find(x.module, root)
		if f < 0 || f >= len(x.module.Funcs) {
			return "", api.ErrSymbol
		}
		funcs = append(funcs, f)
	}
	t, steps, e := solve.Solve(x.module, funcs, solve.Bound(x.module))
	if e != nil {
		return "", e
	}
	x.told = &t
	return counted("steps", steps), nil
}

func (s *Shell) save(name string, sparse bool) (string, error) {
	x, e := s.told(name)
	if e != nil {
		return "", e
	}
	t := *x.told
	if sparse {
		t = table.Sparse(x.module, t)
	}
	file, e := annot.Write(x.module, t, sparse)
	if e != nil {
		return "", e
	}
	x.file = file
	return counted("bytes", len(file)), nil
}

func (s *Shell) spoil(name string, at int64, n byte) (string, error) {
	file, e := s.file(name)
	if e != nil {
		return "", e
	}
	if at < 0 || at >= int64(len(file)) {
		return "", api.ErrRange
	}
	file[at] = n
	return taken, nil
}

func (s *Shell) load(name, from string) (string, error) {
	file, e := s.file(from)
	if e != nil {
		return "", e
	}
	m, t, counts, e := reload.Load(file)
	if e != nil {
		return "", e
	}
	// Each slot has a file of its own, since one of both may be spoilt.
	e = s.keep(slot{name: name, module: m, told: &t, file: slices.Clone(file)})
	return counted("insns", counts.Insns) + blank + counted("edges", counts.Edges), e
}

func (s *Shell) merge(name, a, b string) (string, error) {
	first, e := s.file(a)
	if e != nil {
		return "", e
	}
	second, e := s.file(b)
	if e != nil {
		return "", e
	}
	file, e := merge.Merge(first, second)
	if e != nil {
		return "", e
	}
	m, t, _, e := reload.Load(file)
	if e != nil {
		return "", e
	}
	return counted("bytes", len(file)), s.keep(slot{name: name, module: m, told: &t, file: file})
}

func (s *Shell) run(name string, fuel int, in []string) (string, error) {
	x, e := s.slot(name)
	if e != nil {
		return "", e
	}
	f := vm.Entry(x.module)
	if f < 0 {
		return "", api.ErrNone
	}
	var comes []int64
	for _, word := range in {
		comes = append(comes, number(word))
	}
	v, e := vm.Start(x.module, f, nil, comes)
	if e != nil {
		return "", e
	}
	v.Run(fuel)
	words := append(stands(v), "out")
	for _, n := range v.Out() {
		words = append(words, strconv.FormatInt(n, 10))
	}
	return strings.Join(words, blank), nil
}

// stands are the words for how a machine stands.
func stands(v *vm.Machine) []string {
	switch v.How() {
	case vm.Running:
		return []string{"running"}
	case vm.Trapped:
		return []string{"trapped"}
	}
	n, _ := v.Result()
	return []string{"done", strconv.FormatInt(n, 10)}
}

func (s *Shell) show(name string) (string, error) {
	x, e := s.slot(name)
	if e != nil {
		return "", e
	}
	return asLine(text.Print(x.module)), nil
}

func (s *Shell) facts(name string) (string, error) {
	x, e := s.told(name)
	if e != nil {
		return "", e
	}
	return asLine(text.Facts(x.module, *x.told)), nil
}

// names replies to slots.
func (s *Shell) names() string {
	words := []string{"slots"}
	for _, x := range s.slots {
		words = append(words, x.name)
	}
	return strings.Join(words, blank)
}

func (s *Shell) drop(name string) (string, error) {
	i, ok := s.find(name)
	if !ok {
		return "", api.ErrNone
	}
	s.slots = slices.Delete(s.slots, i, i+1)
	return taken, nil
}

// asLine is a text with its line feeds as they are in a line, but for the last one.
func asLine(lines string) string {
	return strings.ReplaceAll(strings.TrimSuffix(lines, lineFeed), lineFeed, inLine)
}

// counted is a word, and how many there are.
func counted(word string, n int) string { return word + blank + strconv.Itoa(n) }
