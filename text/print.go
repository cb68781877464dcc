package text

import (
	"strings"

	"planish/api"
	"planish/lex"
	"planish/wf"
)

// Print gives m as a text, or why it may not be (P8.1).
func Print(m api.Module) (string, api.Errno) {
	if e := wf.Check(m); e != api.OK {
		return "", e
	}
	var text strings.Builder
	for _, e := range m.Externs {
		putLine(&text, signature(externWord, e.Name, e.Result, e.Params))
	}
	for _, g := range m.Globals {
		putLine(&text, wordsOfGlobal(g))
	}
	for _, t := range m.Tables {
		putLine(&text, wordsOfTable(m, t))
	}
	for _, f := range m.Funcs {
		putFunc(&text, m, f)
	}
	return text.String(), api.OK
}

func putLine(text *strings.Builder, words []string) {
	text.WriteString(strings.Join(words, " "))
	text.WriteByte('\n')
}

func putFunc(text *strings.Builder, m api.Module, f api.Func) {
	begin := funcWord
	if f.Out {
		begin = outWord
	}
	putLine(text, signature(begin, f.Name, f.Result, f.Params))
	for b, block := range f.Blocks {
		putLine(text, []string{ref(blockMark, b)})
		for _, ins := range block.Ins {
			putLine(text, wordsOfIns(m, ins))
		}
	}
}

func signature(begin, name string, result int, params []int) []string {
	words := []string{begin, name, typeWords[result]}
	for _, typ := range params {
		words = append(words, typeWords[typ])
	}
	return words
}

func wordsOfGlobal(g api.Global) []string {
	words := []string{globalWord, g.Name}
	for _, cell := range g.Cells {
		words = append(words, lex.Show(cell))
	}
	return words
}

func wordsOfTable(m api.Module, t api.Table) []string {
	words := []string{tableWord, t.Name}
	for _, f := range t.Funcs {
		if f == noFunc {
			words = append(words, noFuncWord)
		} else {
			words = append(words, m.Funcs[f].Name)
		}
	}
	return words
}

func wordsOfIns(m api.Module, ins api.Ins) []string {
	var words []string
	if ins.Type != 0 {
		words = append(words, ref(valueMark, ins.To), typeWords[ins.Type], givesWord)
	}
	words = append(words, opWords[ins.Op])
	_, _, hasSym, hasNum := wf.Mark(ins.Op)
	if hasSym {
		words = append(words, nameOfSym(m, ins))
	}
	if hasNum {
		words = append(words, lex.Show(ins.Num))
	}
	if ins.Op == api.Phi {
		return append(words, wordsOfEntries(ins)...)
	}
	for _, arg := range ins.Args {
		words = append(words, ref(valueMark, arg))
	}
	for _, to := range ins.Into {
		words = append(words, ref(blockMark, to))
	}
	return words
}

func wordsOfEntries(phi api.Ins) []string {
	var words []string
	for i, arg := range phi.Args {
		words = append(words, ref(blockMark, phi.Into[i]), ref(valueMark, arg))
	}
	return words
}

func nameOfSym(m api.Module, ins api.Ins) string {
	switch ins.Op {
	case api.GloOf:
		return m.Globals[ins.Sym].Name
	case api.Ext:
		return m.Externs[ins.Sym].Name
	case api.Tab:
		return m.Tables[ins.Sym].Name
	}
	return m.Funcs[ins.Sym].Name
}

func ref(mark byte, n int) string { return string([]byte{mark}) + lex.Show(int64(n)) }
