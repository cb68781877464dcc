package text

import (
	"slices"

	"planish/api"
	"planish/lex"
)

const (
	// nowhere is the place of a fault that is not there.
	nowhere = -1
	// many is what wf.Mark says of a count that an Op leaves open.
	many = -1
)

// reader makes a module out of lines. What it reads behind a fault says nothing: the first fault is kept.
type reader struct {
	m api.Module
	// By name the numbers of what has one, also of what stands in lines that are not read yet.
	externs, globals, tables, funcs map[string]int
	// The words of the line that is read, and how many of these are read.
	words []lex.Word
	next  int
	// Where the first word stands that can't, and the first name that is none.
	wrong, missing int
}

func newReader(lines []lex.Line) reader {
	return reader{
		externs: numbersOf(lines, externWord),
		globals: numbersOf(lines, globalWord),
		tables:  numbersOf(lines, tableWord),
		funcs:   numbersOf(lines, funcWord, outWord),
		wrong:   nowhere,
		missing: nowhere,
	}
}

// numbersOf numbers the lines that begin so, by the name behind that: of two alike it is the number of the first one.
func numbersOf(lines []lex.Line, begins ...string) map[string]int {
	numbers := make(map[string]int)
	count := 0
	for _, line := range lines {
		if !slices.Contains(begins, line.Words[0].Text) {
			continue
		}
		if len(line.Words) > 1 {
			name := line.Words[1].Text
			if _, twice := numbers[name]; !twice {
				numbers[name] = count
			}
		}
		count++
	}
	return numbers
}

func (r *reader) fault(at int) {
	if r.wrong == nowhere {
		r.wrong = at
	}
}

func (r *reader) isMore() bool { return r.next < len(r.words) }

// isDone tells whether the line has been read without a fault, to its end.
func (r *reader) isDone() bool {
	if r.isMore() {
		r.fault(r.words[r.next].At)
	}
	return r.wrong == nowhere
}

// word gives the line's next word; where there is none, one without a Text, which is a fault behind the last one.
func (r *reader) word() lex.Word {
	if !r.isMore() {
		last := r.words[len(r.words)-1]
		r.fault(last.At + len(last.Text))
		return lex.Word{}
	}
	w := r.words[r.next]
	r.next++
	return w
}

func (r *reader) number() int64 {
	w := r.word()
	n, is := lex.Num(w.Text)
	if !is {
		r.fault(w.At)
	}
	return n
}

func (r *reader) refOf(w lex.Word, mark byte) int {
	n, is := lex.Ref(w.Text, mark)
	if !is {
		r.fault(w.At)
	}
	return n
}

// refs reads so many numbers behind marks, or many: all that there are.
func (r *reader) refs(mark byte, count int) []int {
	if count == many {
		count = len(r.words) - r.next
	}
	var list []int
	for range count {
		list = append(list, r.refOf(r.word(), mark))
	}
	return list
}

// typeFrom reads a type whose number is at least that one.
func (r *reader) typeFrom(least int) int {
	w := r.word()
	for typ := least; typ < len(typeWords); typ++ {
		if typeWords[typ] == w.Text {
			return typ
		}
	}
	r.fault(w.At)
	return 0
}

func (r *reader) types() []int {
	var list []int
	for r.isMore() {
		list = append(list, r.typeFrom(api.I64))
	}
	return list
}

func (r *reader) op(w lex.Word) int {
	for op := api.Num; op < len(opWords); op++ {
		if opWords[op] == w.Text {
			return op
		}
	}
	r.fault(w.At)
	return 0
}

// named gives the numbers of those of which an op's Sym is one.
func (r *reader) named(op int) map[string]int {
	switch op {
	case api.GloOf:
		return r.globals
	case api.Ext:
		return r.externs
	case api.Tab:
		return r.tables
	}
	return r.funcs
}

// find gives the number of the one that has that name; where none has it, the first such place is kept.
func (r *reader) find(name lex.Word, numbers map[string]int) int {
	n, is := numbers[name.Text]
	if !is && r.missing == nowhere {
		r.missing = name.At
	}
	return n
}
