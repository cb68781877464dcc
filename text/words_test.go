package text

import (
	"math/big"
	"regexp"
	"slices"
	"strconv"
	"strings"
	"testing"

	"planish/api"
	"planish/ir"
	"planish/wf"
)

// spot is a word where it stands.
type spot struct {
	text string
	at   int
}

// inWords is Parse's answer, found as P8.2 has it, one clause behind the other, without a thought of time.
func inWords(s string) (api.Module, int, api.Errno) {
	lines := linesInWords(s)
	if at := formInWords(lines); at >= 0 {
		return api.Module{}, at, api.ErrForm
	}
	m, at := moduleInWords(lines)
	if at >= 0 {
		return api.Module{}, at, api.ErrSym
	}
	if e := wf.Check(m); e != api.OK {
		return api.Module{}, 0, e
	}
	return m, 0, api.OK
}

var noParts = regexp.MustCompile(`[^\t ]+`)

func linesInWords(s string) [][]spot {
	var lines [][]spot
	begin := 0
	for one := range strings.SplitSeq(s, "\n") {
		said, _, _ := strings.Cut(one, "#")
		var words []spot
		for _, w := range noParts.FindAllStringIndex(said, -1) {
			words = append(words, spot{said[w[0]:w[1]], begin + w[0]})
		}
		if words != nil {
			lines = append(lines, words)
		}
		begin += len(one) + 1
	}
	return lines
}

// plainText is a text with one blank between words, and nothing beside these.
func plainText(lines [][]spot) string {
	var plain strings.Builder
	for _, line := range lines {
		for i, w := range line {
			if i > 0 {
				plain.WriteString(" ")
			}
			plain.WriteString(w.text)
		}
		plain.WriteString("\n")
	}
	return plain.String()
}

var (
	typeIs   = regexp.MustCompile(`^(i64|i1|ptr|fun)$`)
	numberIs = regexp.MustCompile(`^(0|-?[1-9][0-9]*)$`)
	valueIs  = regexp.MustCompile(`^%(0|[1-9][0-9]{0,3})$`)
	blockIs  = regexp.MustCompile(`^\^(0|[1-9][0-9]{0,3})$`)
	opRows   = opForms()
)

func isOf(class, w string) bool {
	switch class {
	case "any":
		return true
	case "type":
		return typeIs.MatchString(w)
	case "result":
		return w == "none" || typeIs.MatchString(w)
	case "number":
		n, is := new(big.Int).SetString(w, 10)
		return numberIs.MatchString(w) && is && n.IsInt64()
	case "value":
		return valueIs.MatchString(w)
	case "block":
		return blockIs.MatchString(w)
	case "op":
		_, is := opRows[w]
		return is
	}
	return class == w
}

// formInWords is the place of the first word that can't stand, or -1.
func formInWords(lines [][]spot) int {
	funcs, blocks := 0, 0
	for _, line := range lines {
		classes := ""
		var again []string
		switch w := line[0].text; {
		case w == "extern" || w == "global" || w == "table":
			if funcs > 0 {
				return line[0].at
			}
			classes = map[string]string{"extern": "any result", "global": "any", "table": "any"}[w]
			again = []string{map[string]string{"extern": "type", "global": "number", "table": "any"}[w]}
		case w == "func" || w == "out":
			funcs++
			blocks = 0
			classes, again = "any result", []string{"type"}
		case w[0] == '^':
			if funcs == 0 || w != "^"+strconv.Itoa(blocks) || blocks > 9999 {
				return line[0].at
			}
			blocks++
		default:
			if !isOf("value", w) && !isOf("op", w) || blocks == 0 {
				return line[0].at
			}
			op := w
			if isOf("value", w) {
				classes, op = "type = op ", ""
				if len(line) > 3 {
					op = line[3].text
				}
			}
			classes += opRows[op].fixed
			again = strings.Fields(opRows[op].again)
		}
		if at := faultInWords(line, strings.Fields(classes), again); at >= 0 {
			return at
		}
	}
	return -1
}

func faultInWords(line []spot, classes, again []string) int {
	for i, w := range line[1:] {
		if i == len(classes) {
			classes = append(classes, again...)
		}
		if i == len(classes) || !isOf(classes[i], w.text) {
			return w.at
		}
	}
	if last := line[len(line)-1]; len(line)-1 < len(classes) {
		return last.at + len(last.text)
	}
	return -1
}

// placeInWords is the place of the first of the lines that begin so which has that name, among these.
func placeInWords(lines [][]spot, name string, begins ...string) int {
	place := 0
	for _, line := range lines {
		if slices.Contains(begins, line[0].text) {
			if line[1].text == name {
				return place
			}
			place++
		}
	}
	return -1
}

func numberInWords(w string) int {
	n, _ := strconv.Atoi(strings.TrimLeft(w, "%^"))
	return n
}

func typesInWords(words []spot) []int {
	var types []int
	for _, w := range words {
		types = append(types, slices.Index([]string{"none", "i64", "i1", "ptr", "fun"}, w.text))
	}
	return types
}

// moduleInWords is what lines say in which all words may stand, and the place of the first name that is none, or -1.
func moduleInWords(lines [][]spot) (m api.Module, missing int) {
	missing = -1
	find := func(w spot, begins ...string) int {
		place := placeInWords(lines, w.text, begins...)
		if place < 0 && missing < 0 {
			missing = w.at
		}
		return place
	}
	for _, line := range lines {
		switch w := line[0].text; {
		case w == "extern":
			types := typesInWords(line[2:])
			m.Externs = append(m.Externs, api.Extern{Name: line[1].text, Result: types[0], Params: types[1:]})
		case w == "global":
			g := api.Global{Name: line[1].text}
			for _, cell := range line[2:] {
				n, _ := strconv.ParseInt(cell.text, 10, 64)
				g.Cells = append(g.Cells, n)
			}
			m.Globals = append(m.Globals, g)
		case w == "table":
			t := api.Table{Name: line[1].text}
			for _, f := range line[2:] {
				n := -1
				if f.text != "-" {
					n = find(f, "func", "out")
				}
				t.Funcs = append(t.Funcs, n)
			}
			m.Tables = append(m.Tables, t)
		case w == "func" || w == "out":
			types := typesInWords(line[2:])
			m.Funcs = append(m.Funcs, api.Func{Name: line[1].text, Out: w == "out", Result: types[0], Params: types[1:]})
		case w[0] == '^':
			f := &m.Funcs[len(m.Funcs)-1]
			f.Blocks = append(f.Blocks, api.Block{})
		default:
			f := &m.Funcs[len(m.Funcs)-1]
			b := &f.Blocks[len(f.Blocks)-1]
			b.Ins = append(b.Ins, insInWords(line, find))
		}
	}
	return m, missing
}

func insInWords(line []spot, find func(w spot, begins ...string) int) api.Ins {
	var ins api.Ins
	if line[0].text[0] == '%' {
		ins.To, ins.Type = numberInWords(line[0].text), typesInWords(line[1:2])[0]
		line = line[3:]
	}
	words := strings.Fields("num fun glo add sub mul div rem and or xor shl shr eq lt not sel room at load store call ext tab via phi jump br ret stop")
	ins.Op = 1 + slices.Index(words, line[0].text)
	rest := line[1:]
	switch line[0].text {
	case "num", "room":
		ins.Num, _ = strconv.ParseInt(rest[0].text, 10, 64)
		return ins
	case "fun", "call":
		ins.Sym = find(rest[0], "func", "out")
		rest = rest[1:]
	case "glo":
		ins.Sym = find(rest[0], "global")
		rest = rest[1:]
	case "ext":
		ins.Sym = find(rest[0], "extern")
		rest = rest[1:]
	case "tab":
		ins.Sym = find(rest[0], "table")
		rest = rest[1:]
	}
	for _, w := range rest {
		if w.text[0] == '%' {
			ins.Args = append(ins.Args, numberInWords(w.text))
		} else {
			ins.Into = append(ins.Into, numberInWords(w.text))
		}
	}
	return ins
}

// wantWords holds Parse against the words; what is read is printed, and read again, the same (P8.3).
func wantWords(t *testing.T, s string) api.Errno {
	t.Helper()
	want, wantAt, wantE := inWords(s)
	m, at, e := Parse(s)
	if at != wantAt || e != wantE || !ir.Same(m, want) {
		t.Fatalf("P8.2: Parse of %q: %d at %d, not %d at %d: %v, not %v", s, e, at, wantE, wantAt, m, want)
	}
	if e != api.OK {
		return e
	}
	printed, f := Print(m)
	if again, at, g := Parse(printed); f != api.OK || at != 0 || g != api.OK || !ir.Same(again, m) {
		t.Fatalf("P8.3: %q is read, printed as %q (%d), and read again as another one (%d at %d): %v, %v", s, printed, f, g, at, m, again)
	}
	return e
}

// oddWords are words of all kinds, each of which can stand somewhere, or hardly anywhere.
func oddWords() []string {
	return []string{
		"extern", "global", "table", "func", "out", "i64", "i1", "ptr", "none", "=", "-", "0", "-1", "9223372036854775808", "%0", "%1", "%2", "%27", "%10000", "^0", "^1", "^2", "^3", "^4", "^x", "%",
		"num", "fun", "add", "call", "ext", "phi", "ret", "stop", "jump", "main", "plain", "ends", "gaps", "nobody",
	}
}

func TestWordsOfTheSample(t *testing.T) {
	if e := wantWords(t, sampleText); e != api.OK {
		t.Errorf("the words, of the sample: %d", e)
	}
	if plain := plainText(linesInWords("# x\n" + sampleText)); plain != sampleText {
		t.Errorf("the sample is not plain: %q", plain)
	}
}

// changed is the sample with that line another one.
func changed(lines [][]spot, k int, line ...spot) string {
	return plainText(slices.Concat(lines[:k], [][]spot{line}, lines[k+1:]))
}

// TestEachWordAnother has each word of the sample be others, dropped, twice, in the other order, and others ahead of it.
func TestEachWordAnother(t *testing.T) {
	lines := linesInWords(sampleText)
	seen := make(map[api.Errno]int)
	for k, line := range lines {
		for i := range line {
			var others [][]spot
			for _, w := range oddWords() {
				others = append(others, slices.Concat(line[:i], []spot{{text: w}}, line[i+1:]))
			}
			for _, w := range []string{"x", "%1", "^1", "1", "i1"} {
				others = append(others, slices.Insert(slices.Clone(line), i, spot{text: w}), slices.Insert(slices.Clone(line), i+1, spot{text: w}))
			}
			others = append(others, slices.Concat(line[:i], line[i+1:]), slices.Insert(slices.Clone(line), i, line[i]), line[:i])
			if i > 0 {
				others = append(others, slices.Concat(line[:i-1], []spot{line[i], line[i-1]}, line[i+1:]))
			}
			for _, other := range others {
				if len(other) > 0 {
					seen[wantWords(t, changed(lines, k, other...))]++
				}
			}
		}
	}
	for _, e := range []api.Errno{api.OK, api.ErrForm, api.ErrName, api.ErrSym, api.ErrFlow, api.ErrUse, api.ErrType} {
		if seen[e] < 10 {
			t.Errorf("the test has only %d texts of %d", seen[e], e)
		}
	}
}

// TestEachLineElsewhere has each line of the sample dropped, twice, and in the place of each other one.
func TestEachLineElsewhere(t *testing.T) {
	lines := linesInWords(sampleText)
	for k, line := range lines {
		less := slices.Concat(lines[:k], lines[k+1:])
		wantWords(t, plainText(less))
		wantWords(t, plainText(lines[:k]))
		wantWords(t, plainText(lines[k:]))
		wantWords(t, plainText(slices.Insert(slices.Clone(lines), k, line)))
		for place := range less {
			wantWords(t, plainText(slices.Insert(slices.Clone(less), place, line)))
		}
	}
}

// throw changes some words and lines, and what stands between them.
func (d *dice) throw(s string) string {
	lines := linesInWords(s)
	for range 1 + d.below(4) {
		k := d.below(len(lines))
		line := slices.Clone(lines[k])
		i := d.below(len(line))
		switch d.below(6) {
		case 0:
			line = slices.Insert(line, i, spot{text: d.one(oddWords())})
		case 1:
			if line = slices.Delete(line, i, i+1); len(line) == 0 {
				continue
			}
		case 2:
			lines = slices.Insert(slices.Delete(slices.Clone(lines), k, k+1), d.below(len(lines)), line)
			continue
		case 3:
			from := lines[d.below(len(lines))]
			line[i] = from[d.below(len(from))]
		default:
			line[i].text = d.one(oddWords())
		}
		lines[k] = line
	}
	var loose strings.Builder
	for _, line := range lines {
		for _, w := range line {
			loose.WriteString(d.one([]string{" ", "\t", "  ", " "}) + w.text)
		}
		loose.WriteString(d.one([]string{"\n", "\n", " \n", "# ret x\n", "\t# ^0\n\n", "\n\n"}))
	}
	return strings.TrimRight(loose.String(), d.one([]string{"\n", " ", "\n \t"}))
}

func TestThrownTexts(t *testing.T) {
	thrown := dice(8)
	small := "extern e i64 i64\nglobal g 1\ntable t f -\nfunc f i64 i64\n^0\n%2 ptr = glo g\n%3 i64 = load %2\njump ^1\n^1\n%4 i64 = phi ^0 %3 ^1 %5\n%5 i64 = ext e %4\n%6 i1 = lt %4 %5\nbr %6 ^1 ^2\n^2\nret %5\nout main none\n^0\nstop\n"
	for range 5000 {
		wantWords(t, thrown.throw(small))
		wantWords(t, thrown.throw(thrown.throw(small)))
	}
	for range 2000 {
		wantWords(t, thrown.throw(sampleText))
	}
}
